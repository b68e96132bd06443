import PyProof.Rows.All
import Wide.All
import OpenK.AllK
import Wide.FinOn
import HandS.ForSpec
import HandS.IsInst
import HandS.Gcd
import HandS.Comp
import HandS.Dict
import HandS.Iter
import HandS.Deep
import HandS.TupAny
import HandS.Conv
import HandS.Zip
import HandS.Style
import HandS.TupLen
import HandS.SortRule
import HandS.SortInts
import HandS.ExcCtx
import HandS.HotCalls
import KE.KMathGC
import HandS.TupMul
import KE.KDictDisplayH
import HandS.WordsDict
import KE.GoesEnum
import KE.GoesZip
import HandS.More
import HandS.TupSets
import HandS.DictComp
import HandS.SetBool
import HandS.Strs
import PyProof.DictFindH
import HandS.DictSubView
import HandS.DictTup
import KE.KDictWalk
import HandS.SetFor
import HandS.FStr
import HandS.Text
import KE.KExcSuper
import KE.KExcLine
import HandS.ExcInit
import HandS.ReplaceDef
import HandS.ExcField
import KE.GoesEnumKw
import PyProof.ToksMono
import PyProof.StrReplace2
import HandS.Property
import HandS.Lambda
import HandS.Nested
import HandS.EndTab
import HandS.EndOwn
import HandS.ExcIs
import KE.KExcIs
import PySem.Challenge.RW_roundstreets_k05_whole_grids
set_option Elab.async false
set_option linter.all false
set_option maxRecDepth 100000
/-! Plain data, and what represents it in the abstract heap -/
namespace Dn
open PySem PySem.Spec PyProof.Rows L2

/-- plain data -/
inductive D where
  | non | bl (b : Bool) | int (i : Int) | str (s : Str)
  | tup (l : List D) | lst (l : List D)
  /-- a dict (t: of tuple keys): its keys, its values -/
  | dic (t : Bool) (ks vs : List D)
  /-- the script -/
  | scr (l : List Int)
deriving Inhabited

/-- a key of a dict as data -/
def kD : Key → D
  | .inl i => .int i
  | .inr s => .str s
def kTD (k : List Key) : D := .tup (k.map kD)

def eqL (f : D → D → Bool) : List D → List D → Bool
  | [], [] => true
  | x :: xs, y :: ys => f x y && eqL f xs ys
  | _, _ => false
/-- Python's == on plain data, to a depth -/
def eqv : Nat → D → D → Bool
  | _, .non, .non => true
  | _, .bl a, .bl b => a == b
  | _, .bl a, .int j => (if a then 1 else 0) == j
  | _, .int i, .bl b => i == (if b then 1 else 0)
  | _, .int i, .int j => i == j
  | _, .str x, .str y => x == y
  | n + 1, .tup xs, .tup ys => eqL (eqv n) xs ys
  | n + 1, .lst xs, .lst ys => eqL (eqv n) xs ys
  | _, _, _ => false
/-- comparable data, to a depth -/
def lay : Nat → D → Bool
  | _, .non => true
  | _, .bl _ => true
  | _, .int _ => true
  | _, .str x => x.cps.all (· < 0x110000)
  | n + 1, .tup xs => xs.all (lay n)
  | n + 1, .lst xs => xs.all (lay n)
  | _, _ => false
def py : Nat → D → PyData
  | _, .non => .none
  | _, .bl b => .bool b
  | _, .int i => .int i
  | _, .str x => .str x
  | n + 1, .tup xs => .tuple (xs.map (py n))
  | n + 1, .lst xs => .list (xs.map (py n))
  | _, _ => .none

mutual
/-- v stands for d, by the part F of the heap -/
inductive Rp (K : PySem.W.Frag) (F : Hp) : V → D → Prop
  | non : Rp K F .non .non
  | bl (b : Bool) : Rp K F (.bl b) (.bl b)
  | int (i : Int) : Rp K F (.int i) (.int i)
  | str (x : Str) : Rp K F (.str x) (.str x)
  | tup {a : Addr} {xs : List V} {ds : List D} : F a = some (.tup xs) → RpA K F xs ds → Rp K F (.ref a) (.tup ds)
  | lst {a : Addr} {xs : List V} {ds : List D} : F a = some (.lst xs) → RpA K F xs ds → Rp K F (.ref a) (.lst ds)
  | dcT {a : Addr} {kvs : List (List Key × V)} {vs : List D} : F a = some (.dT kvs) → RpA K F (kvs.map (·.2)) vs → Rp K F (.ref a) (.dic true (kvs.map fun p => kTD p.1) vs)
  | dcK {a : Addr} {kvs : List (Key × V)} {vs : List D} : F a = some (.dK kvs) → RpA K F (kvs.map (·.2)) vs → Rp K F (.ref a) (.dic false (kvs.map fun p => kD p.1) vs)
  | scr {a : Addr} {ns : List Int} : SqL K F a (ns.map V.int) → Rp K F (.ref a) (.scr ns)
inductive RpA (K : PySem.W.Frag) (F : Hp) : List V → List D → Prop
  | nil : RpA K F [] []
  | cons {v : V} {vs : List V} {d : D} {ds : List D} : Rp K F v d → RpA K F vs ds → RpA K F (v :: vs) (d :: ds)
end

section
variable {K : PySem.W.Frag} {F F' H : Hp}
theorem Same.sql {a : Addr} {xs : List V} (s : Same F F') (h : SqL K F a xs) : SqL K F' a xs := s.seq h
mutual
theorem Rp.mono (s : Same F F') : ∀ {v : V} {d : D}, Rp K F v d → Rp K F' v d
  | _, _, .non => .non
  | _, _, .bl b => .bl b
  | _, _, .int i => .int i
  | _, _, .str x => .str x
  | _, _, .tup h r => .tup (s _ _ h) (RpA.mono s r)
  | _, _, .lst h r => .lst (s _ _ h) (RpA.mono s r)
  | _, _, .dcT h r => .dcT (s _ _ h) (RpA.mono s r)
  | _, _, .dcK h r => .dcK (s _ _ h) (RpA.mono s r)
  | _, _, .scr h => .scr (s.seq h)
theorem RpA.mono (s : Same F F') : ∀ {vs : List V} {ds : List D}, RpA K F vs ds → RpA K F' vs ds
  | _, _, .nil => .nil
  | _, _, .cons h r => .cons (Rp.mono s h) (RpA.mono s r)
end
theorem RpA.length : ∀ {vs : List V} {ds : List D}, RpA K F vs ds → vs.length = ds.length
  | _, _, .nil => rfl
  | _, _, .cons _ r => by rw [List.length_cons, List.length_cons, RpA.length r]
theorem RpA.get : ∀ {vs : List V} {ds : List D} {i : Nat} {d : D}, RpA K F vs ds → ds[i]? = some d → ∃ v, vs[i]? = some v ∧ Rp K F v d
  | _, _, i, d, .nil, h => by simp at h
  | _, _, 0, d, .cons r _, h => by
    have e := Option.some.inj h
    subst e
    exact ⟨_, rfl, r⟩
  | _, _, i + 1, d, .cons _ r, h => RpA.get (i := i) r h
theorem RpA.append : ∀ {vs : List V} {ds : List D} {vs' : List V} {ds' : List D}, RpA K F vs ds → RpA K F vs' ds' → RpA K F (vs ++ vs') (ds ++ ds')
  | _, _, _, _, .nil, q => q
  | _, _, _, _, .cons h r, q => .cons h (RpA.append r q)
theorem RpA.take : ∀ {vs : List V} {ds : List D} (n : Nat), RpA K F vs ds → RpA K F (vs.take n) (ds.take n)
  | _, _, 0, _ => .nil
  | _, _, _ + 1, .nil => .nil
  | _, _, n + 1, .cons h r => .cons h (RpA.take n r)
theorem RpA.drop : ∀ {vs : List V} {ds : List D} (n : Nat), RpA K F vs ds → RpA K F (vs.drop n) (ds.drop n)
  | _, _, 0, r => r
  | _, _, _ + 1, .nil => .nil
  | _, _, n + 1, .cons _ r => RpA.drop n r
theorem RpA.set : ∀ {vs : List V} {ds : List D} (n : Nat) {v : V} {d : D}, RpA K F vs ds → Rp K F v d → RpA K F (vs.set n v) (ds.set n d)
  | _, _, _, _, _, .nil, _ => .nil
  | _, _, 0, _, _, .cons _ r, q => .cons q r
  | _, _, n + 1, _, _, .cons h r, q => .cons h (RpA.set n r q)
theorem RpA.dropLast : ∀ {vs : List V} {ds : List D}, RpA K F vs ds → RpA K F vs.dropLast ds.dropLast := fun {vs ds} r => by
  rw [List.dropLast_eq_take, List.dropLast_eq_take, r.length]
  exact r.take _
theorem RpA.one {v : V} {d : D} (h : Rp K F v d) : RpA K F [v] [d] := .cons h .nil
theorem RpA.ints : ∀ (ns : List Int), RpA K F (ns.map V.int) (ns.map D.int)
  | [] => .nil
  | n :: r => .cons (.int n) (RpA.ints r)
theorem RpA.of_ints : ∀ {ns : List Int} {vs : List V}, RpA K F vs (ns.map D.int) → vs = ns.map V.int
  | [], _, h => by cases h; rfl
  | n :: r, _, h => by
    cases h with
    | cons h1 h2 =>
      cases h1
      rw [List.map_cons, ← RpA.of_ints h2]
theorem RpA.of_bls : ∀ {ns : List Bool} {vs : List V}, RpA K F vs (ns.map D.bl) → vs = ns.map V.bl
  | [], _, h => by cases h; rfl
  | n :: r, _, h => by
    cases h with
    | cons h1 h2 =>
      cases h1
      rw [List.map_cons, ← RpA.of_bls h2]
theorem RpA.reverse : ∀ {vs : List V} {ds : List D}, RpA K F vs ds → RpA K F vs.reverse ds.reverse
  | _, _, .nil => .nil
  | _, _, .cons h r => by
    rw [List.reverse_cons, List.reverse_cons]
    exact (RpA.reverse r).append (.one h)

/-- comparable data: what the layer's own rules of == want -/
theorem eqL_py {n : Nat} (ih : ∀ a b : D, lay n a = true → lay n b = true → eqv n a b = PyData.eqv (py n a) (py n b)) :
    ∀ xs ys : List D, xs.all (lay n) = true → ys.all (lay n) = true → eqL (eqv n) xs ys = PyData.eqvAll (xs.map (py n)) (ys.map (py n))
  | [], [], _, _ => by simp only [eqL, List.map_nil, PyData.eqvAll]
  | [], _ :: _, _, _ => by simp only [eqL, List.map_nil, List.map_cons, PyData.eqvAll]
  | _ :: _, [], _, _ => by simp only [eqL, List.map_nil, List.map_cons, PyData.eqvAll]
  | x :: xs, y :: ys, hx, hy => by
    rw [List.all_cons, Bool.and_eq_true] at hx hy
    simp only [eqL, List.map_cons, PyData.eqvAll]
    rw [ih x y hx.1 hy.1, eqL_py ih xs ys hx.2 hy.2]
theorem eqv_py : ∀ (n : Nat) (a b : D), lay n a = true → lay n b = true → eqv n a b = PyData.eqv (py n a) (py n b)
  | 0, a, b, ha, hb => by
    cases a <;> cases b <;> first
      | (simp only [eqv, py, PyData.eqv]; done)
      | (exfalso; simp [lay] at ha; done)
      | (exfalso; simp [lay] at hb; done)
  | n + 1, a, b, ha, hb => by
    have ih := eqv_py n
    cases a <;> cases b <;> first
      | (simp only [eqv, py, PyData.eqv]; done)
      | (exfalso; simp [lay] at ha; done)
      | (exfalso; simp [lay] at hb; done)
      | (simp only [lay] at ha hb; simp only [eqv, py, PyData.eqv]; exact eqL_py ih _ _ ha hb)
theorem depthAll_le {n : Nat} {xs : List PyData} (h : ∀ x ∈ xs, x.depth ≤ n) : PyData.depthAll xs ≤ n := by
  induction xs with
  | nil => simp [PyData.depthAll]
  | cons x r ih =>
    have h1 := h x List.mem_cons_self
    have h2 := ih fun y hy => h y (List.mem_cons_of_mem _ hy)
    simp only [PyData.depthAll]
    omega
theorem canLayAll_of {xs : List PyData} (h : ∀ x ∈ xs, x.canLay0 = true) : PyData.canLayAll0 xs = true := by
  induction xs with
  | nil => simp [PyData.canLayAll0]
  | cons x r ih =>
    have h1 := h x List.mem_cons_self
    have h2 := ih fun y hy => h y (List.mem_cons_of_mem _ hy)
    simp only [PyData.canLayAll0, h1, h2, Bool.and_self]
theorem lay_py : ∀ (n : Nat) (a : D), lay n a = true → (py n a).depth ≤ n ∧ (py n a).canLay0 = true
  | 0, a, h => by
    cases a <;> first
      | (simp [py, PyData.depth, PyData.canLay0]; done)
      | (exfalso; simp [lay] at h; done)
      | (simp only [lay] at h; simp [py, PyData.depth, PyData.canLay0, PyData.strOk]; simpa using h)
  | n + 1, a, h => by
    have ih := lay_py n
    cases a with
    | non => simp [py, PyData.depth, PyData.canLay0]
    | bl b => simp [py, PyData.depth, PyData.canLay0]
    | int b => simp [py, PyData.depth, PyData.canLay0]
    | str b => simp only [lay] at h; simp [py, PyData.depth, PyData.canLay0, PyData.strOk]; simpa using h
    | tup xs =>
      simp only [lay, List.all_eq_true] at h
      simp only [py, PyData.depth, PyData.canLay0]
      refine ⟨Nat.succ_le_succ (depthAll_le fun x hx => ?_), canLayAll_of fun x hx => ?_⟩
      · obtain ⟨y, hy, rfl⟩ := List.mem_map.mp hx
        exact (ih y (h y hy)).1
      · obtain ⟨y, hy, rfl⟩ := List.mem_map.mp hx
        exact (ih y (h y hy)).2
    | lst xs =>
      simp only [lay, List.all_eq_true] at h
      simp only [py, PyData.depth, PyData.canLay0]
      refine ⟨Nat.succ_le_succ (depthAll_le fun x hx => ?_), canLayAll_of fun x hx => ?_⟩
      · obtain ⟨y, hy, rfl⟩ := List.mem_map.mp hx
        exact (ih y (h y hy)).1
      · obtain ⟨y, hy, rfl⟩ := List.mem_map.mp hx
        exact (ih y (h y hy)).2
    | dic _ _ _ => simp only [lay, Bool.false_eq_true] at h
    | scr _ => simp only [lay, Bool.false_eq_true] at h
theorem shaped_py {n : Nat} (hn : n ≤ 64) {a : D} (h : lay n a = true) : SeqAt.shaped (py n a) = true := by
  obtain ⟨h1, h2⟩ := lay_py n a h
  unfold SeqAt.shaped
  rw [h2, Bool.true_and, decide_eq_true_eq]
  omega
mutual
theorem Rp.dp : ∀ {v : V} {d : D} {n : Nat}, Rp K F v d → Same F H → lay n d = true → Dp K H v (py n d)
  | _, _, n, .non, _, _ => by cases n <;> exact .non
  | _, _, n, .bl b, _, _ => by cases n <;> exact .bl b
  | _, _, n, .int i, _, _ => by cases n <;> exact .int i
  | _, _, n, .str x, _, _ => by cases n <;> exact .str x
  | _, _, 0, .tup h r, s, e => by simp only [lay, Bool.false_eq_true] at e
  | _, _, 0, .lst h r, s, e => by simp only [lay, Bool.false_eq_true] at e
  | _, _, n + 1, .tup h r, s, e => .tup (SqT.of (s _ _ h)) (RpA.dp r s (by simpa only [lay] using e))
  | _, _, n + 1, .lst h r, s, e => .lst (SqL.of (s _ _ h)) (RpA.dp r s (by simpa only [lay] using e))
  | _, _, n, .dcT h r, s, e => by cases n <;> simp only [lay, Bool.false_eq_true] at e
  | _, _, n, .dcK h r, s, e => by cases n <;> simp only [lay, Bool.false_eq_true] at e
  | _, _, n, .scr h, s, e => by cases n <;> simp only [lay, Bool.false_eq_true] at e
theorem RpA.dp : ∀ {vs : List V} {ds : List D} {n : Nat}, RpA K F vs ds → Same F H → ds.all (lay n) = true → DpAll K H vs (ds.map (py n))
  | _, _, n, .nil, _, _ => .nil
  | _, _, n, .cons h r, s, e => by
    rw [List.all_cons, Bool.and_eq_true] at e
    exact .cons (Rp.dp h s e.1) (RpA.dp r s e.2)
end
end
end Dn

/-! States of plain data: what each local name holds; a part F of the heap never changes any more, an object that a name owns may -/
namespace Dn
open PySem PySem.Spec PyProof.Rows L2

/-- what an owned object holds -/
inductive Co where
  | lst (ds : List D)
  | dT (es : List (List Key × D))
  | dK (es : List (Key × D))
def Co.d : Co → D
  | .lst ds => .lst ds
  | .dT es => .dic true (es.map fun e => kTD e.1) (es.map (·.2))
  | .dK es => .dic false (es.map fun e => kD e.1) (es.map (·.2))
/-- a local name: nothing yet; a value; an object of its own (b: a caller's, lent) -/
inductive Slot where
  | emp
  | val (d : D)
  | own (b : Bool) (c : Co)
  /-- the object at a, which a field of an instance holds -/
  | pin (a : Addr) (b : Bool) (c : Co)
  /-- an instance that stands: where, its class, its dict, its fields (those that are data) -/
  | ins (p C dx : Addr) (fs : List (Str × V × Option D))
def Slot.ow : Slot → Bool
  | .own _ _ => true
  | .pin _ _ _ => true
  | _ => false
abbrev Sto := List Slot
/-- an error: its class by number, its fields -/
structure Exn where
  c : Nat
  fs : List (Str × D)
inductive Res (α : Type) where
  | ok (a : α) (ρ : Sto)
  | exc (e : Exn) (ρ : Sto)
abbrev M (α : Type) := Sto → Option (Res α)
def M.pure {α : Type} (a : α) : M α := fun ρ => some (.ok a ρ)
def M.bind {α β : Type} (m : M α) (k : α → M β) : M β := fun ρ => match m ρ with
  | none => none
  | some (.exc e ρ') => some (.exc e ρ')
  | some (.ok a ρ') => k a ρ'
def M.lift {α : Type} (o : Option α) : M α := fun ρ => o.map fun a => .ok a ρ
def M.raise {α : Type} (e : Exn) : M α := fun ρ => some (.exc e ρ)

/-- where a body stands: the written part, what stood and what was settled at the entry, the objects that were lent, the errors' classes -/
structure Gx where
  K : PySem.W.Frag
  F0 : Hp
  H0 : Hp
  io : List Addr
  ex : Nat → Value

def CoR (K : PySem.W.Frag) (F : Hp) (o : HO) : Co → Prop
  | .lst ds => ∃ vs, o = .lst vs ∧ RpA K F vs ds
  | .dT es => ∃ kvs, o = .dT kvs ∧ kvs.map (·.1) = es.map (·.1) ∧ RpA K F (kvs.map (·.2)) (es.map (·.2))
  | .dK es => ∃ kvs, o = .dK kvs ∧ kvs.map (·.1) = es.map (·.1) ∧ RpA K F (kvs.map (·.2)) (es.map (·.2))
def SlotR (G : Gx) (F H : Hp) (ov : Option V) : Slot → Prop
  | .emp => True
  | .val d => ∃ v, ov = some v ∧ Rp G.K F v d
  | .own b c => ∃ p o, ov = some (.ref p) ∧ H p = some o ∧ CoR G.K F o c ∧ F p = none ∧ (if b then p ∈ G.io else G.H0 p = none)
  | .pin p b c => ov = some (.ref p) ∧ ∃ o, H p = some o ∧ CoR G.K F o c ∧ F p = none ∧ (if b then p ∈ G.io else G.H0 p = none)
  | .ins p C dx fs => ov = some (.ref p) ∧ F p = some (.ins C dx (fs.map fun e => (e.1, e.2.1))) ∧ ∀ e ∈ fs, ∀ d, e.2.2 = some d → Rp G.K F e.2.1 d
/-- no name owns p -/
def Free (ρ : Sto) (σ : L2.St) (p : Addr) : Prop := ∀ (i : Nat) (s : Slot), ρ[i]? = some s → s.ow = true → σ[i]? ≠ some (some (.ref p))
/-- objects that no name holds yet -/
abbrev Tmp := List (Addr × HO)
structure Rep (G : Gx) (F H : Hp) (ρ : Sto) (σ : L2.St) (τ : Tmp) : Prop where
  sub : Same F H
  base : Same G.F0 F
  newF : ∀ a, F a ≠ none → G.F0 a = none → G.H0 a = none
  keep : ∀ a o, a ∉ G.io → G.H0 a = some o → H a = some o
  alive : ∀ a, G.H0 a ≠ none → H a ≠ none
  len : σ.length = ρ.length
  slot : ∀ (i : Nat) (s : Slot), ρ[i]? = some s → ∃ ov, σ[i]? = some ov ∧ SlotR G F H ov s
  apart : ∀ (i j : Nat) (s t : Slot), i ≠ j → ρ[i]? = some s → ρ[j]? = some t → s.ow = true → t.ow = true → σ[i]? ≠ σ[j]?
  tmp : ∀ t ∈ τ, H t.1 = some t.2 ∧ F t.1 = none ∧ G.H0 t.1 = none ∧ Free ρ σ t.1
  tnd : (τ.map (·.1)).Nodup
/-- the heap has grown: what is new and settled was not there -/
structure Ext (F H F' H' : Hp) : Prop where
  f : Same F F'
  h : Same H H'
  s : Same F' H'
  n : ∀ a, F' a ≠ none → F a = none → H a = none

theorem none_of_ne {o : Option HO} (h : ¬ o ≠ none) : o = none := Classical.not_not.mp h
theorem Ext.refl {F H : Hp} (s : Same F H) : Ext F H F H := ⟨Same.refl F, Same.refl H, s, fun a h1 h2 => absurd h2 h1⟩
theorem Ext.trans {F H F' H' F2 H2 : Hp} (a : Ext F H F' H') (b : Ext F' H' F2 H2) : Ext F H F2 H2 := by
  refine ⟨a.f.trans b.f, a.h.trans b.h, b.s, fun x h1 h2 => ?_⟩
  by_cases h : F' x = none
  · exact a.h.free (b.n x h1 h)
  · exact a.n x h h2
theorem same_upd {H : Hp} {p : Addr} {o : HO} (h : H p = none) : Same H (upd H p o) := fun b x e => by
  rw [upd_ne (ne_of_none e h)]
  exact e
theorem Ext.new {F H : Hp} {p : Addr} (o : HO) (s : Same F H) (h : H p = none) : Ext F H (upd F p o) (upd H p o) := by
  have hF : F p = none := s.free h
  refine ⟨same_upd hF, same_upd h, fun a x e => ?_, fun a h1 h2 => ?_⟩
  · by_cases ha : a = p
    · subst ha
      rw [upd_same] at e ⊢
      exact e
    · rw [upd_ne ha] at e ⊢
      exact s a x e
  · by_cases ha : a = p
    · rw [ha]; exact h
    · rw [upd_ne ha] at h1
      exact absurd h2 h1
/-- new, not settled -/
theorem Ext.loose {F H : Hp} {p : Addr} (o : HO) (s : Same F H) (h : H p = none) : Ext F H F (upd H p o) :=
  ⟨Same.refl F, same_upd h, s.trans (same_upd h), fun a h1 h2 => absurd h2 h1⟩
theorem CoR.mono {K : PySem.W.Frag} {F F' : Hp} {o : HO} (s : Same F F') : ∀ {c : Co}, CoR K F o c → CoR K F' o c
  | .lst _, ⟨vs, e, r⟩ => ⟨vs, e, r.mono s⟩
  | .dT _, ⟨vs, e, k, r⟩ => ⟨vs, e, k, r.mono s⟩
  | .dK _, ⟨vs, e, k, r⟩ => ⟨vs, e, k, r.mono s⟩
section
variable {G : Gx} {F H F' H' : Hp} {ρ : Sto} {σ : L2.St} {τ : Tmp}
theorem SlotR.ext {ov : Option V} (e : Ext F H F' H') : ∀ {s : Slot}, SlotR G F H ov s → SlotR G F' H' ov s
  | .emp, _ => trivial
  | .val _, ⟨v, h, r⟩ => ⟨v, h, r.mono e.f⟩
  | .own b c, ⟨p, o, h, hp, r, n, q⟩ => by
    have n' : F' p = none := none_of_ne fun z => by
      have := e.n p z n
      rw [hp] at this
      cases this
    exact ⟨p, o, h, e.h _ _ hp, r.mono e.f, n', q⟩
  | .pin p b c, ⟨h, o, hp, r, n, q⟩ => by
    have n' : F' p = none := none_of_ne fun z => by
      have := e.n p z n
      rw [hp] at this
      cases this
    exact ⟨h, o, e.h _ _ hp, r.mono e.f, n', q⟩
  | .ins p C dx fs, ⟨h, hp, r⟩ => ⟨h, e.f _ _ hp, fun x hx d hd => (r x hx d hd).mono e.f⟩
theorem Rep.ext (R : Rep G F H ρ σ τ) (e : Ext F H F' H') : Rep G F' H' ρ σ τ where
  sub := e.s
  base := R.base.trans e.f
  newF := fun a h1 h2 => by
    by_cases h : F a = none
    · have h3 := e.n a h1 h
      exact none_of_ne fun z => R.alive a z h3
    · exact R.newF a h h2
  keep := fun a o h1 h2 => e.h _ _ (R.keep a o h1 h2)
  alive := fun a h => by
    have h1 := R.alive a h
    cases q : H a with
    | none => exact absurd q h1
    | some o => rw [e.h _ _ q]; exact fun z => by cases z
  len := R.len
  slot := fun i s h => let ⟨ov, h1, h2⟩ := R.slot i s h; ⟨ov, h1, h2.ext e⟩
  apart := R.apart
  tmp := fun t ht => by
    obtain ⟨h1, h2, h3, h4⟩ := R.tmp t ht
    refine ⟨e.h _ _ h1, none_of_ne fun z => ?_, h3, h4⟩
    have := e.n _ z h2
    rw [h1] at this
    cases this
  tnd := R.tnd
theorem Rep.val (R : Rep G F H ρ σ τ) {i : Nat} {d : D} (h : ρ[i]? = some (.val d)) : ∃ v, σ[i]? = some (some v) ∧ Rp G.K F v d := by
  obtain ⟨ov, h1, v, rfl, h2⟩ := R.slot i _ h
  exact ⟨v, h1, h2⟩
theorem Rep.own (R : Rep G F H ρ σ τ) {i : Nat} {b : Bool} {c : Co} (h : ρ[i]? = some (.own b c)) :
    ∃ p o, σ[i]? = some (some (.ref p)) ∧ H p = some o ∧ CoR G.K F o c ∧ F p = none ∧ (if b then p ∈ G.io else G.H0 p = none) := by
  obtain ⟨ov, h1, p, o, rfl, h2⟩ := R.slot i _ h
  exact ⟨p, o, h1, h2⟩
theorem Rep.pinn (R : Rep G F H ρ σ τ) {i : Nat} {p : Addr} {b : Bool} {c : Co} (h : ρ[i]? = some (.pin p b c)) :
    σ[i]? = some (some (.ref p)) ∧ ∃ o, H p = some o ∧ CoR G.K F o c ∧ F p = none ∧ (if b then p ∈ G.io else G.H0 p = none) := by
  obtain ⟨ov, h1, rfl, h2⟩ := R.slot i _ h
  exact ⟨h1, h2⟩
theorem Rep.inst (R : Rep G F H ρ σ τ) {i : Nat} {p C dx : Addr} {fs : List (Str × V × Option D)} (h : ρ[i]? = some (.ins p C dx fs)) :
    σ[i]? = some (some (.ref p)) ∧ F p = some (.ins C dx (fs.map fun e => (e.1, e.2.1))) ∧ ∀ e ∈ fs, ∀ d, e.2.2 = some d → Rp G.K F e.2.1 d := by
  obtain ⟨ov, h1, rfl, h2⟩ := R.slot i _ h
  exact ⟨h1, h2⟩
theorem getElem?_set_cases {α : Type} {l : List α} {i j : Nat} {a b : α} (h : (l.set i a)[j]? = some b) : (j = i ∧ b = a) ∨ (j ≠ i ∧ l[j]? = some b) := by
  by_cases e : i = j
  · subst e
    rw [List.getElem?_set_self'] at h
    left
    cases q : l[i]? with
    | none => rw [q] at h; cases h
    | some x => rw [q] at h; exact ⟨rfl, (Option.some.inj h).symm⟩
  · rw [List.getElem?_set_ne e] at h
    exact .inr ⟨fun z => e z.symm, h⟩
theorem Free.set {ρ : Sto} {σ : L2.St} {p : Addr} (f : Free ρ σ p) (i : Nat) (s : Slot) (ov : Option V) (h : s.ow = true → ov ≠ some (.ref p)) : Free (ρ.set i s) (σ.set i ov) p := fun j t h1 h2 h3 => by
  rcases getElem?_set_cases h1 with ⟨rfl, rfl⟩ | ⟨e1, e2⟩
  · rcases getElem?_set_cases h3 with ⟨_, e⟩ | ⟨e, _⟩
    · exact h h2 e.symm
    · exact e rfl
  · rw [List.getElem?_set_ne (Ne.symm e1)] at h3
    exact f j t e2 h2 h3
/-- a name gets a value -/
theorem Rep.setv (R : Rep G F H ρ σ τ) (i : Nat) {v : V} {d : D} (r : Rp G.K F v d) : Rep G F H (ρ.set i (.val d)) (σ.set i (some v)) τ where
  sub := R.sub
  base := R.base
  newF := R.newF
  keep := R.keep
  alive := R.alive
  len := by rw [List.length_set, List.length_set, R.len]
  slot := fun j s h => by
    rcases getElem?_set_cases h with ⟨rfl, rfl⟩ | ⟨h1, h2⟩
    · have hl : j < (ρ.set j (Slot.val d)).length := (List.getElem?_eq_some_iff.mp h).1
      rw [List.length_set, ← R.len] at hl
      exact ⟨some v, by rw [List.getElem?_set_self hl], v, rfl, r⟩
    · obtain ⟨ov, h3, h4⟩ := R.slot j s h2
      exact ⟨ov, by rw [List.getElem?_set_ne (Ne.symm h1)]; exact h3, h4⟩
  apart := fun j k s t hjk hj hk hs ht => by
    rcases getElem?_set_cases hj with ⟨rfl, rfl⟩ | ⟨h1, h2⟩
    · cases hs
    · rcases getElem?_set_cases hk with ⟨rfl, rfl⟩ | ⟨h3, h4⟩
      · cases ht
      · rw [List.getElem?_set_ne (Ne.symm h1), List.getElem?_set_ne (Ne.symm h3)]
        exact R.apart j k s t hjk h2 h4 hs ht
  tmp := fun t ht => let ⟨h1, h2, h3, h4⟩ := R.tmp t ht; ⟨h1, h2, h3, h4.set i _ _ fun z => by cases z⟩
  tnd := R.tnd
theorem Rep.free_new (R : Rep G F H ρ σ τ) {p : Addr} (h : H p = none) : Free ρ σ p := fun i s h1 h2 h3 => by
  cases s with
  | own b c =>
    obtain ⟨q, o, h4, h5, _⟩ := R.own h1
    rw [h3] at h4
    have e : V.ref p = V.ref q := Option.some.inj (Option.some.inj h4)
    have e2 : p = q := by injection e
    rw [← e2, h] at h5
    cases h5
  | pin q b c =>
    obtain ⟨h4, o, h5, _⟩ := R.pinn h1
    rw [h3] at h4
    have e : V.ref p = V.ref q := Option.some.inj (Option.some.inj h4)
    have e2 : p = q := by injection e
    rw [← e2, h] at h5
    cases h5
  | ins _ _ _ _ => cases h2
  | emp => cases h2
  | val d => cases h2
/-- a name gets an object of its own -/
theorem Rep.seto (R : Rep G F H ρ σ τ) (i : Nat) {p : Addr} {o : HO} {c : Co} (hp : H p = some o) (r : CoR G.K F o c) (hF : F p = none) (h0 : G.H0 p = none) (fr : Free ρ σ p) (nt : p ∉ τ.map (·.1)) :
    Rep G F H (ρ.set i (.own false c)) (σ.set i (some (.ref p))) τ where
  sub := R.sub
  base := R.base
  newF := R.newF
  keep := R.keep
  alive := R.alive
  len := by rw [List.length_set, List.length_set, R.len]
  slot := fun j s h => by
    rcases getElem?_set_cases h with ⟨rfl, rfl⟩ | ⟨h1, h2⟩
    · have hl : j < (ρ.set j (Slot.own false c)).length := (List.getElem?_eq_some_iff.mp h).1
      rw [List.length_set, ← R.len] at hl
      exact ⟨some (.ref p), by rw [List.getElem?_set_self hl], p, o, rfl, hp, r, hF, h0⟩
    · obtain ⟨ov, h3, h4⟩ := R.slot j s h2
      exact ⟨ov, by rw [List.getElem?_set_ne (Ne.symm h1)]; exact h3, h4⟩
  apart := fun j k s t hjk hj hk hs ht => by
    rcases getElem?_set_cases hj with ⟨rfl, rfl⟩ | ⟨h1, h2⟩
    · rcases getElem?_set_cases hk with ⟨rfl, rfl⟩ | ⟨h3, h4⟩
      · exact absurd rfl hjk
      · have hl : j < (ρ.set j (Slot.own false c)).length := (List.getElem?_eq_some_iff.mp hj).1
        rw [List.length_set, ← R.len] at hl
        rw [List.getElem?_set_self hl, List.getElem?_set_ne (Ne.symm h3)]
        exact fun e => fr k t h4 ht e.symm
    · rcases getElem?_set_cases hk with ⟨rfl, rfl⟩ | ⟨h3, h4⟩
      · have hl : k < (ρ.set k (Slot.own false c)).length := (List.getElem?_eq_some_iff.mp hk).1
        rw [List.length_set, ← R.len] at hl
        rw [List.getElem?_set_self hl, List.getElem?_set_ne (Ne.symm h1)]
        exact fun e => fr j s h2 hs e
      · rw [List.getElem?_set_ne (Ne.symm h1), List.getElem?_set_ne (Ne.symm h3)]
        exact R.apart j k s t hjk h2 h4 hs ht
  tmp := fun t ht => let ⟨h1, h2, h3, h4⟩ := R.tmp t ht; ⟨h1, h2, h3, h4.set i _ _ fun _ z => by
    have e : V.ref p = V.ref t.1 := Option.some.inj z
    have e2 : p = t.1 := by injection e
    exact nt (e2 ▸ List.mem_map.mpr ⟨t, ht, rfl⟩)⟩
  tnd := R.tnd
/-- the object that name i owns is written -/
theorem Rep.write (R : Rep G F H ρ σ τ) {i : Nat} {b : Bool} {c c' : Co} {p : Addr} {o : HO} (h : ρ[i]? = some (.own b c)) (hs : σ[i]? = some (some (.ref p))) (r : CoR G.K F o c') :
    Rep G F (upd H p o) (ρ.set i (.own b c')) σ τ := by
  obtain ⟨q, o1, h1, h2, h3, h4, h5⟩ := R.own h
  have e : V.ref p = V.ref q := Option.some.inj (Option.some.inj (hs.symm.trans h1))
  have e2 : p = q := by injection e
  subst e2
  have notF : ∀ a o', F a = some o' → a ≠ p := fun a o' z w => by rw [w, h4] at z; cases z
  refine ⟨fun a o' z => ?_, R.base, R.newF, fun a o' z1 z2 => ?_, fun a z => ?_, by rw [List.length_set, R.len], fun j s hj => ?_, fun j k s t hjk hj hk hs' ht => ?_, fun t ht => ?_, R.tnd⟩
  · rw [upd_ne (notF a o' z)]
    exact R.sub a o' z
  · have : a ≠ p := fun w => by
      subst w
      cases b with
      | true => exact z1 h5
      | false =>
        have : G.H0 a = none := h5
        rw [this] at z2
        cases z2
    rw [upd_ne this]
    exact R.keep a o' z1 z2
  · by_cases w : a = p
    · rw [w, upd_same]; exact fun z => by cases z
    · rw [upd_ne w]; exact R.alive a z
  · rcases getElem?_set_cases hj with ⟨rfl, rfl⟩ | ⟨g1, g2⟩
    · exact ⟨_, hs, p, o, rfl, upd_same, r, h4, h5⟩
    · obtain ⟨ov, g3, g4⟩ := R.slot j s g2
      refine ⟨ov, g3, ?_⟩
      cases s with
      | emp => trivial
      | val d => exact g4
      | own b2 c2 =>
        obtain ⟨q2, o2, rfl, k2, k3, k4, k5⟩ := g4
        have ne : q2 ≠ p := fun w => R.apart j i _ _ g1 g2 h rfl rfl (by rw [g3, hs, w])
        exact ⟨q2, o2, rfl, by rw [upd_ne ne]; exact k2, k3, k4, k5⟩
      | pin q2 b2 c2 =>
        obtain ⟨rfl, o2, k2, k3, k4, k5⟩ := g4
        have ne : q2 ≠ p := fun w => R.apart j i _ _ g1 g2 h rfl rfl (by rw [g3, hs, w])
        exact ⟨rfl, o2, by rw [upd_ne ne]; exact k2, k3, k4, k5⟩
      | ins _ _ _ _ => exact g4
  · have old : ∀ (j : Nat) (s : Slot), (ρ.set i (.own b c'))[j]? = some s → s.ow = true → ∃ s', ρ[j]? = some s' ∧ s'.ow = true := fun j s hj hs => by
      rcases getElem?_set_cases hj with ⟨rfl, rfl⟩ | ⟨g1, g2⟩
      · exact ⟨_, h, rfl⟩
      · exact ⟨s, g2, hs⟩
    obtain ⟨s', g1, g2⟩ := old j s hj hs'
    obtain ⟨t', g3, g4⟩ := old k t hk ht
    exact R.apart j k s' t' hjk g1 g3 g2 g4
  · obtain ⟨g1, g2, g3, g4⟩ := R.tmp t ht
    have ne : t.1 ≠ p := fun w => g4 i _ h rfl (by rw [hs, w])
    refine ⟨by rw [upd_ne ne]; exact g1, g2, g3, fun j s hj hs' => ?_⟩
    rcases getElem?_set_cases hj with ⟨rfl, rfl⟩ | ⟨k1, k2⟩
    · exact g4 j _ h rfl
    · exact g4 j s k2 hs'
/-- the object that slot i pins is written -/
theorem Rep.writep (R : Rep G F H ρ σ τ) {i : Nat} {b : Bool} {c c' : Co} {p : Addr} {o : HO} (h : ρ[i]? = some (.pin p b c)) (r : CoR G.K F o c') : Rep G F (upd H p o) (ρ.set i (.pin p b c')) σ τ := by
  obtain ⟨hs, o1, h2, h3, h4, h5⟩ := R.pinn h
  have notF : ∀ a o', F a = some o' → a ≠ p := fun a o' z w => by rw [w, h4] at z; cases z
  refine ⟨fun a o' z => ?_, R.base, R.newF, fun a o' z1 z2 => ?_, fun a z => ?_, by rw [List.length_set, R.len], fun j s hj => ?_, fun j k s t hjk hj hk hs' ht => ?_, fun t ht => ?_, R.tnd⟩
  · rw [upd_ne (notF a o' z)]
    exact R.sub a o' z
  · have : a ≠ p := fun w => by
      subst w
      cases b with
      | true => exact z1 h5
      | false =>
        have : G.H0 a = none := h5
        rw [this] at z2
        cases z2
    rw [upd_ne this]
    exact R.keep a o' z1 z2
  · by_cases w : a = p
    · rw [w, upd_same]; exact fun z => by cases z
    · rw [upd_ne w]; exact R.alive a z
  · rcases getElem?_set_cases hj with ⟨rfl, rfl⟩ | ⟨g1, g2⟩
    · exact ⟨_, hs, rfl, o, upd_same, r, h4, h5⟩
    · obtain ⟨ov, g3, g4⟩ := R.slot j s g2
      refine ⟨ov, g3, ?_⟩
      cases s with
      | emp => trivial
      | val d => exact g4
      | own b2 c2 =>
        obtain ⟨q2, o2, rfl, k2, k3, k4, k5⟩ := g4
        have ne : q2 ≠ p := fun w => R.apart j i _ _ g1 g2 h rfl rfl (by rw [g3, hs, w])
        exact ⟨q2, o2, rfl, by rw [upd_ne ne]; exact k2, k3, k4, k5⟩
      | pin q2 b2 c2 =>
        obtain ⟨rfl, o2, k2, k3, k4, k5⟩ := g4
        have ne : q2 ≠ p := fun w => R.apart j i _ _ g1 g2 h rfl rfl (by rw [g3, hs, w])
        exact ⟨rfl, o2, by rw [upd_ne ne]; exact k2, k3, k4, k5⟩
      | ins _ _ _ _ => exact g4
  · have old : ∀ (j : Nat) (s : Slot), (ρ.set i (.pin p b c'))[j]? = some s → s.ow = true → ∃ s', ρ[j]? = some s' ∧ s'.ow = true := fun j s hj hs => by
      rcases getElem?_set_cases hj with ⟨rfl, rfl⟩ | ⟨g1, g2⟩
      · exact ⟨_, h, rfl⟩
      · exact ⟨s, g2, hs⟩
    obtain ⟨s', g1, g2⟩ := old j s hj hs'
    obtain ⟨t', g3, g4⟩ := old k t hk ht
    exact R.apart j k s' t' hjk g1 g3 g2 g4
  · obtain ⟨g1, g2, g3, g4⟩ := R.tmp t ht
    have ne : t.1 ≠ p := fun w => g4 i _ h rfl (by rw [hs, w])
    refine ⟨by rw [upd_ne ne]; exact g1, g2, g3, fun j s hj hs' => ?_⟩
    rcases getElem?_set_cases hj with ⟨rfl, rfl⟩ | ⟨k1, k2⟩
    · exact g4 j _ h rfl
    · exact g4 j s k2 hs'
/-- a slot pins a new object -/
theorem Rep.setp (R : Rep G F H ρ σ τ) (i : Nat) {p : Addr} {o : HO} {c : Co} (hp : H p = some o) (r : CoR G.K F o c) (hF : F p = none) (h0 : G.H0 p = none) (fr : Free ρ σ p) (nt : p ∉ τ.map (·.1)) :
    Rep G F H (ρ.set i (.pin p false c)) (σ.set i (some (.ref p))) τ where
  sub := R.sub
  base := R.base
  newF := R.newF
  keep := R.keep
  alive := R.alive
  len := by rw [List.length_set, List.length_set, R.len]
  slot := fun j s h => by
    rcases getElem?_set_cases h with ⟨rfl, rfl⟩ | ⟨h1, h2⟩
    · have hl : j < (ρ.set j (Slot.pin p false c)).length := (List.getElem?_eq_some_iff.mp h).1
      rw [List.length_set, ← R.len] at hl
      exact ⟨some (.ref p), by rw [List.getElem?_set_self hl], rfl, o, hp, r, hF, h0⟩
    · obtain ⟨ov, h3, h4⟩ := R.slot j s h2
      exact ⟨ov, by rw [List.getElem?_set_ne (Ne.symm h1)]; exact h3, h4⟩
  apart := fun j k s t hjk hj hk hs ht => by
    rcases getElem?_set_cases hj with ⟨rfl, rfl⟩ | ⟨h1, h2⟩
    · rcases getElem?_set_cases hk with ⟨rfl, rfl⟩ | ⟨h3, h4⟩
      · exact absurd rfl hjk
      · have hl : j < (ρ.set j (Slot.pin p false c)).length := (List.getElem?_eq_some_iff.mp hj).1
        rw [List.length_set, ← R.len] at hl
        rw [List.getElem?_set_self hl, List.getElem?_set_ne (Ne.symm h3)]
        exact fun e => fr k t h4 ht e.symm
    · rcases getElem?_set_cases hk with ⟨rfl, rfl⟩ | ⟨h3, h4⟩
      · have hl : k < (ρ.set k (Slot.pin p false c)).length := (List.getElem?_eq_some_iff.mp hk).1
        rw [List.length_set, ← R.len] at hl
        rw [List.getElem?_set_self hl, List.getElem?_set_ne (Ne.symm h1)]
        exact fun e => fr j s h2 hs e
      · rw [List.getElem?_set_ne (Ne.symm h1), List.getElem?_set_ne (Ne.symm h3)]
        exact R.apart j k s t hjk h2 h4 hs ht
  tmp := fun t ht => let ⟨h1, h2, h3, h4⟩ := R.tmp t ht; ⟨h1, h2, h3, h4.set i _ _ fun _ z => by
    have e : V.ref p = V.ref t.1 := Option.some.inj z
    have e2 : p = t.1 := by injection e
    exact nt (e2 ▸ List.mem_map.mpr ⟨t, ht, rfl⟩)⟩
  tnd := R.tnd
/-- a slot tells an instance -/
theorem Rep.seti (R : Rep G F H ρ σ τ) (i : Nat) {p C dx : Addr} {fs : List (Str × V × Option D)} (hF : F p = some (.ins C dx (fs.map fun e => (e.1, e.2.1)))) (r : ∀ e ∈ fs, ∀ d, e.2.2 = some d → Rp G.K F e.2.1 d) :
    Rep G F H (ρ.set i (.ins p C dx fs)) (σ.set i (some (.ref p))) τ where
  sub := R.sub
  base := R.base
  newF := R.newF
  keep := R.keep
  alive := R.alive
  len := by rw [List.length_set, List.length_set, R.len]
  slot := fun j s h => by
    rcases getElem?_set_cases h with ⟨rfl, rfl⟩ | ⟨h1, h2⟩
    · have hl : j < (ρ.set j (Slot.ins p C dx fs)).length := (List.getElem?_eq_some_iff.mp h).1
      rw [List.length_set, ← R.len] at hl
      exact ⟨some (.ref p), by rw [List.getElem?_set_self hl], rfl, hF, r⟩
    · obtain ⟨ov, h3, h4⟩ := R.slot j s h2
      exact ⟨ov, by rw [List.getElem?_set_ne (Ne.symm h1)]; exact h3, h4⟩
  apart := fun j k s t hjk hj hk hs ht => by
    rcases getElem?_set_cases hj with ⟨rfl, rfl⟩ | ⟨h1, h2⟩
    · cases hs
    · rcases getElem?_set_cases hk with ⟨rfl, rfl⟩ | ⟨h3, h4⟩
      · cases ht
      · rw [List.getElem?_set_ne (Ne.symm h1), List.getElem?_set_ne (Ne.symm h3)]
        exact R.apart j k s t hjk h2 h4 hs ht
  tmp := fun t ht => let ⟨h1, h2, h3, h4⟩ := R.tmp t ht; ⟨h1, h2, h3, h4.set i _ _ fun z => by cases z⟩
  tnd := R.tnd
theorem CoR.rp {K : PySem.W.Frag} {F F' : Hp} {o : HO} {p : Addr} (s : Same F F') (h : F' p = some o) : ∀ {c : Co}, CoR K F o c → Rp K F' (.ref p) c.d
  | .lst ds, ⟨vs, e, r⟩ => .lst (by rw [h, e]) (r.mono s)
  | .dT es, ⟨kvs, e, k, r⟩ => by
    subst e
    show Rp K F' (.ref p) (.dic true (es.map fun e => kTD e.1) (es.map (·.2)))
    have e1 : (es.map fun e => kTD e.1) = kvs.map fun q => kTD q.1 := by
      have := congrArg (List.map kTD) k
      rw [List.map_map, List.map_map] at this
      exact this.symm
    rw [e1]
    exact .dcT h (r.mono s)
  | .dK es, ⟨kvs, e, k, r⟩ => by
    subst e
    show Rp K F' (.ref p) (.dic false (es.map fun e => kD e.1) (es.map (·.2)))
    have e1 : (es.map fun e => kD e.1) = kvs.map fun q => kD q.1 := by
      have := congrArg (List.map kD) k
      rw [List.map_map, List.map_map] at this
      exact this.symm
    rw [e1]
    exact .dcK h (r.mono s)
/-- an owned object is settled -/
theorem Rep.freeze (R : Rep G F H ρ σ τ) {i : Nat} {c : Co} (h : ρ[i]? = some (.own false c)) :
    ∃ p F', σ[i]? = some (some (.ref p)) ∧ Same F F' ∧ Rp G.K F' (.ref p) c.d ∧ Rep G F' H (ρ.set i (.val c.d)) σ τ := by
  obtain ⟨p, o, h1, h2, h3, h4, h5⟩ := R.own h
  have h5 : G.H0 p = none := h5
  have hi : i < σ.length := (List.getElem?_eq_some_iff.mp h1).1
  have sF : Same F (upd F p o) := same_upd h4
  have rp : Rp G.K (upd F p o) (.ref p) c.d := h3.rp sF upd_same
  refine ⟨p, upd F p o, h1, sF, rp, ?_⟩
  refine ⟨fun a x e => ?_, R.base.trans sF, fun a z1 z2 => ?_, R.keep, R.alive, by rw [List.length_set, R.len], fun j s hj => ?_, fun j k s t hjk hj hk hs ht => ?_, fun t ht => ?_, R.tnd⟩
  · by_cases w : a = p
    · subst w
      rw [upd_same] at e
      rw [← e]; exact h2
    · rw [upd_ne w] at e
      exact R.sub a x e
  · by_cases w : a = p
    · rw [w]; exact h5
    · rw [upd_ne w] at z1
      exact R.newF a z1 z2
  · rcases getElem?_set_cases hj with ⟨rfl, rfl⟩ | ⟨g1, g2⟩
    · exact ⟨_, h1, _, rfl, rp⟩
    · obtain ⟨ov, g3, g4⟩ := R.slot j s g2
      refine ⟨ov, g3, ?_⟩
      cases s with
      | emp => trivial
      | val d =>
        obtain ⟨v, e, r⟩ := g4
        exact ⟨v, e, r.mono sF⟩
      | own b2 c2 =>
        obtain ⟨q2, o2, rfl, k2, k3, k4, k5⟩ := g4
        have ne : q2 ≠ p := fun w => R.apart j i _ _ g1 g2 h rfl rfl (by rw [g3, h1, w])
        exact ⟨q2, o2, rfl, k2, k3.mono sF, by rw [upd_ne ne]; exact k4, k5⟩
      | pin q2 b2 c2 =>
        obtain ⟨rfl, o2, k2, k3, k4, k5⟩ := g4
        have ne : q2 ≠ p := fun w => R.apart j i _ _ g1 g2 h rfl rfl (by rw [g3, h1, w])
        exact ⟨rfl, o2, k2, k3.mono sF, by rw [upd_ne ne]; exact k4, k5⟩
      | ins _ _ _ _ => exact ⟨g4.1, sF _ _ g4.2.1, fun x hx d hd => (g4.2.2 x hx d hd).mono sF⟩
  · rcases getElem?_set_cases hj with ⟨rfl, rfl⟩ | ⟨g1, g2⟩
    · cases hs
    · rcases getElem?_set_cases hk with ⟨rfl, rfl⟩ | ⟨g3, g4⟩
      · cases ht
      · exact R.apart j k s t hjk g2 g4 hs ht
  · obtain ⟨g1, g2, g3, g4⟩ := R.tmp t ht
    have ne : t.1 ≠ p := fun w => g4 i _ h rfl (by rw [h1, w])
    refine ⟨g1, by rw [upd_ne ne]; exact g2, g3, fun j s hj hs' => ?_⟩
    rcases getElem?_set_cases hj with ⟨rfl, rfl⟩ | ⟨k1, k2⟩
    · cases hs'
    · exact g4 j s k2 hs'
/-- a name is forgotten -/
theorem Rep.clear (R : Rep G F H ρ σ τ) (i : Nat) (ov : Option V) : Rep G F H (ρ.set i .emp) (σ.set i ov) τ where
  sub := R.sub
  base := R.base
  newF := R.newF
  keep := R.keep
  alive := R.alive
  len := by rw [List.length_set, List.length_set, R.len]
  slot := fun j s h => by
    rcases getElem?_set_cases h with ⟨rfl, rfl⟩ | ⟨h1, h2⟩
    · have hl : j < (ρ.set j Slot.emp).length := (List.getElem?_eq_some_iff.mp h).1
      rw [List.length_set, ← R.len] at hl
      exact ⟨ov, by rw [List.getElem?_set_self hl], trivial⟩
    · obtain ⟨ov, h3, h4⟩ := R.slot j s h2
      exact ⟨ov, by rw [List.getElem?_set_ne (Ne.symm h1)]; exact h3, h4⟩
  apart := fun j k s t hjk hj hk hs ht => by
    rcases getElem?_set_cases hj with ⟨rfl, rfl⟩ | ⟨h1, h2⟩
    · cases hs
    · rcases getElem?_set_cases hk with ⟨rfl, rfl⟩ | ⟨h3, h4⟩
      · cases ht
      · rw [List.getElem?_set_ne (Ne.symm h1), List.getElem?_set_ne (Ne.symm h3)]
        exact R.apart j k s t hjk h2 h4 hs ht
  tmp := fun t ht => let ⟨h1, h2, h3, h4⟩ := R.tmp t ht; ⟨h1, h2, h3, h4.set i _ _ fun z => by cases z⟩
  tnd := R.tnd
/-- an object that no name holds yet -/
theorem Rep.push (R : Rep G F H ρ σ τ) {p : Addr} {o : HO} (hp : H p = some o) (hF : F p = none) (h0 : G.H0 p = none) (fr : Free ρ σ p) (nt : p ∉ τ.map (·.1)) : Rep G F H ρ σ ((p, o) :: τ) :=
  ⟨R.sub, R.base, R.newF, R.keep, R.alive, R.len, R.slot, R.apart, fun t ht => by
    rcases List.mem_cons.mp ht with e | ht
    · subst e
      exact ⟨hp, hF, h0, fr⟩
    · exact R.tmp t ht, by rw [List.map_cons]; exact List.nodup_cons.mpr ⟨nt, R.tnd⟩⟩
theorem Rep.pop {p : Addr} {o : HO} (R : Rep G F H ρ σ ((p, o) :: τ)) : Rep G F H ρ σ τ ∧ H p = some o ∧ F p = none ∧ G.H0 p = none ∧ Free ρ σ p ∧ p ∉ τ.map (·.1) := by
  have nd := R.tnd
  rw [List.map_cons, List.nodup_cons] at nd
  obtain ⟨h1, h2, h3, h4⟩ := R.tmp _ List.mem_cons_self
  exact ⟨⟨R.sub, R.base, R.newF, R.keep, R.alive, R.len, R.slot, R.apart, fun t ht => R.tmp t (List.mem_cons_of_mem _ ht), nd.2⟩, h1, h2, h3, h4, nd.1⟩
/-- what is new is in no state -/
theorem Rep.new_tmp (R : Rep G F H ρ σ τ) {p : Addr} (h : H p = none) : p ∉ τ.map (·.1) := fun hm => by
  obtain ⟨t, ht, e⟩ := List.mem_map.mp hm
  have := (R.tmp t ht).1
  rw [e, h] at this
  cases this
theorem Rep.new_0 (R : Rep G F H ρ σ τ) {p : Addr} (h : H p = none) : G.H0 p = none := none_of_ne fun z => R.alive p z h
/-- .. is written -/
theorem Rep.wtmp {p : Addr} {o : HO} (R : Rep G F H ρ σ ((p, o) :: τ)) (o' : HO) : Rep G F (upd H p o') ρ σ ((p, o') :: τ) := by
  obtain ⟨R0, h1, h2, h3, h4, h5⟩ := R.pop
  refine ⟨fun a x e => ?_, R.base, R.newF, fun a x z1 z2 => ?_, fun a z => ?_, R.len, fun j s g2 => ?_, R.apart, fun t ht => ?_, R.tnd⟩
  · have : a ≠ p := fun w => by rw [w, h2] at e; cases e
    rw [upd_ne this]
    exact R.sub a x e
  · have : a ≠ p := fun w => by rw [w, h3] at z2; cases z2
    rw [upd_ne this]
    exact R.keep a x z1 z2
  · by_cases w : a = p
    · rw [w, upd_same]; exact fun z => by cases z
    · rw [upd_ne w]; exact R.alive a z
  · obtain ⟨ov, g3, g4⟩ := R.slot j s g2
    refine ⟨ov, g3, ?_⟩
    cases s with
    | emp => trivial
    | val d => exact g4
    | own b2 c2 =>
      obtain ⟨q2, o2, rfl, k2, k3, k4, k5⟩ := g4
      have ne : q2 ≠ p := fun w => h4 j _ g2 rfl (by rw [g3, w])
      exact ⟨q2, o2, rfl, by rw [upd_ne ne]; exact k2, k3, k4, k5⟩
    | pin q2 b2 c2 =>
      obtain ⟨rfl, o2, k2, k3, k4, k5⟩ := g4
      have ne : q2 ≠ p := fun w => h4 j _ g2 rfl (by rw [g3, w])
      exact ⟨rfl, o2, by rw [upd_ne ne]; exact k2, k3, k4, k5⟩
    | ins _ _ _ _ => exact g4
  · rcases List.mem_cons.mp ht with e | ht
    · subst e
      exact ⟨upd_same, h2, h3, h4⟩
    · obtain ⟨g1, g2, g3, g4⟩ := R0.tmp t ht
      have ne : t.1 ≠ p := fun w => h5 (w ▸ List.mem_map.mpr ⟨t, ht, rfl⟩)
      exact ⟨by rw [upd_ne ne]; exact g1, g2, g3, g4⟩
end

/-! ### ends -/
def ExR (K : PySem.W.Frag) (ex : Nat → Value) (F H : Hp) (e : Exn) (cls : Value) (dd : Option Addr) : Prop :=
  cls = ex e.c ∧ ((e.fs = [] ∧ dd = none) ∨ ∃ a fs, dd = some a ∧ H a = some (.xd fs) ∧ fs.map (·.1) = e.fs.map (·.1) ∧ RpA K F (fs.map (·.2)) (e.fs.map (·.2)))
/-- Z of what comes out, the wish of errors where an error does -/
def Fin {α : Type} (G : Gx) (W : WX) (F : Hp) (σ : L2.St) (τ : Tmp) (Z : α → Sto → Hp → Hp → Prop) : Option (Res α) → Prop
  | none => False
  | some (.ok a ρ') => ∀ F' H', Same F F' → Rep G F' H' ρ' σ τ → Z a ρ' F' H'
  | some (.exc e ρ') => ∀ F' H' cls dd, Same F F' → Rep G F' H' ρ' σ τ → ExR G.K G.ex F' H' e cls dd → W cls dd σ H'
section
variable {G : Gx} {W : WX} {F F' : Hp} {σ : L2.St} {τ : Tmp} {α β : Type} {Z Z' : α → Sto → Hp → Hp → Prop}
theorem Fin.imp {r : Option (Res α)} (h : Fin G W F σ τ Z r) (k : ∀ a ρ' F' H', Same F F' → Rep G F' H' ρ' σ τ → Z a ρ' F' H' → Z' a ρ' F' H') : Fin G W F σ τ Z' r := by
  match r, h with
  | some (.ok a ρ'), h => exact fun F' H' s R => k a ρ' F' H' s R (h F' H' s R)
  | some (.exc e ρ'), h => exact h
theorem Fin.mono {r : Option (Res α)} (s : Same F F') (h : Fin G W F σ τ Z r) : Fin G W F' σ τ Z r := by
  match r, h with
  | some (.ok a ρ'), h => exact fun F2 H2 s2 R => h F2 H2 (s.trans s2) R
  | some (.exc e ρ'), h => exact fun F2 H2 c d s2 R => h F2 H2 c d (s.trans s2) R
theorem Fin.bind {m : M β} {k : β → M α} {ρ : Sto} (h : Fin G W F σ τ Z (M.bind m k ρ)) : Fin G W F σ τ (fun b ρ1 F1 _ => Fin G W F1 σ τ Z (k b ρ1)) (m ρ) := by
  unfold M.bind at h
  match q : m ρ with
  | none => rw [q] at h; exact h
  | some (.exc e ρ') => rw [q] at h; exact h
  | some (.ok b ρ') =>
    rw [q] at h
    intro F1 H1 s R
    exact Fin.mono s h
/-- nothing is run any more: what comes is a value -/
theorem Fin.lift {o : Option α} {ρ : Sto} (h : Fin G W F σ τ Z (M.lift o ρ)) : ∃ a, o = some a ∧ ∀ F' H', Same F F' → Rep G F' H' ρ σ τ → Z a ρ F' H' := by
  cases o with
  | none => exact h.elim
  | some a => exact ⟨a, rfl, h⟩
theorem Fin.pure {a : α} {ρ : Sto} (h : Fin G W F σ τ Z (M.pure a ρ)) : ∀ F' H', Same F F' → Rep G F' H' ρ σ τ → Z a ρ F' H' := h
end

/-! ### what an expression, a test, a list of arguments, a fresh object is worth -/
def tI (G : Gx) (W : WX) (f : M D) : TE := fun σ H Q => ∃ F ρ τ, Rep G F H ρ σ τ ∧ Fin G W F σ τ (fun d _ F' H' => ∀ v, Rp G.K F' v d → Q v H') (f ρ)
/-- .. a value as it stands now -/
def tK (G : Gx) (W : WX) (f : M D) : TE := fun σ H Q => ∃ F ρ τ, Rep G F H ρ σ τ ∧ Fin G W F σ τ (fun d _ _ H' => ∀ v, Rp G.K H' v d → Q v H') (f ρ)
def tT (G : Gx) (W : WX) (f : M Bool) : TT := fun σ H Q => ∃ F ρ τ, Rep G F H ρ σ τ ∧ Fin G W F σ τ (fun b _ _ H' => Q b H') (f ρ)
def tA (G : Gx) (W : WX) (f : M (List D)) : TA := fun σ H Q => ∃ F ρ τ, Rep G F H ρ σ τ ∧ Fin G W F σ τ (fun ds _ F' H' => ∀ vs, RpA G.K F' vs ds → Q vs H') (f ρ)
/-- a fresh object that nothing else knows -/
def Fresh (G : Gx) (F' H' : Hp) (ρ' : Sto) (σ : L2.St) (τ : Tmp) (c : Co) (p : Addr) : Prop := ∃ o, H' p = some o ∧ CoR G.K F' o c ∧ F' p = none ∧ G.H0 p = none ∧ Free ρ' σ p ∧ p ∉ τ.map (·.1)
def tN (G : Gx) (W : WX) (f : M Co) : TE := fun σ H Q => ∃ F ρ τ, Rep G F H ρ σ τ ∧ Fin G W F σ τ (fun c ρ' F' H' => ∀ p, Fresh G F' H' ρ' σ τ c p → Q (.ref p) H') (f ρ)

/-- what is known where code stands -/
structure Kx (bb : Bool) (X : Cx) (G : Gx) (W : WX) (k : Nat) : Prop where
  hK : G.K = X.K
  tk : L2N.Takes X W
  un : X.A.units + 16 * k + 200 < cLine
  nd : X.N.Nodup
  hr : bb = true → Room k X.A
  calm : bb = true → X.calm = true
  hot : bb = false → L2H.HotC X ∧ L2H.RoomH k X.A
section
variable {X : Cx}
theorem PE.imp {e : Expr} {t t' : TE} (h : PE X e t) (k : ∀ σ H Q, t' σ H Q → t σ H Q) : PE X e t' := ⟨fun pins s σ H Q I q => h.run pins s σ H Q I (k σ H Q q)⟩
theorem PT.imp {e : Expr} {t t' : TT} (h : PT X e t) (k : ∀ σ H Q, t' σ H Q → t σ H Q) : PT X e t' := ⟨fun pins s σ H Q I q => h.run pins s σ H Q I (k σ H Q q)⟩
theorem PA.imp {e : List Expr} {t t' : TA} (h : PA X e t) (k : ∀ σ H Q, t' σ H Q → t σ H Q) : PA X e t' := ⟨fun pos pins s σ H Q I q => h.run pos pins s σ H Q I (k σ H Q q)⟩
theorem PW.imp {e : Expr} {t t' : TT} (h : PW X e t) (k : ∀ σ H Q, t' σ H Q → t σ H Q) : PW X e t' := ⟨fun wh pins s σ H Q I q => h.run wh pins s σ H Q I (k σ H Q q)⟩
theorem PS.imp {e : Stmt} {t t' : TS} (h : PS X e t) (k : ∀ E σ H, t' E σ H → t E σ H) : PS X e t' := ⟨fun pins s σ H E I q => h.run pins s σ H E I (k E σ H q)⟩
theorem PSs.imp {e : List Stmt} {t t' : TS} (h : PSs X e t) (k : ∀ E σ H, t' E σ H → t E σ H) : PSs X e t' := ⟨fun pins s σ H E I q => h.run pins s σ H E I (k E σ H q)⟩
variable {G : Gx} {W : WX}
theorem PE.now {e : Expr} {f : M D} (h : PE X e (tI G W f)) : PE X e (tK G W f) := PE.imp h fun σ H Q ⟨F, ρ, τ, R, q⟩ => ⟨F, ρ, τ, R, q.imp fun _ _ _ _ _ R' z v r => z v (r.mono R'.sub)⟩
theorem Rep.fresh {F H : Hp} {ρ : Sto} {σ : L2.St} {τ : Tmp} {c : Co} {p : Addr} (R : Rep G F H ρ σ τ) : Fresh G F H ρ σ τ c p → ∃ F', Same F F' ∧ Rp G.K F' (.ref p) c.d ∧ Rep G F' H ρ σ τ := fun ⟨o, h2, h3, h4, h5, fr, nt⟩ => by
  have sF : Same F (upd F p o) := same_upd h4
  have rp : Rp G.K (upd F p o) (.ref p) c.d := h3.rp sF upd_same
  refine ⟨upd F p o, sF, rp, ?_⟩
  refine ⟨fun a x e => ?_, R.base.trans sF, fun a z1 z2 => ?_, R.keep, R.alive, R.len, fun j s g2 => ?_, R.apart, fun t ht => ?_, R.tnd⟩
  · by_cases w : a = p
    · subst w
      rw [upd_same] at e
      rw [← e]; exact h2
    · rw [upd_ne w] at e
      exact R.sub a x e
  · by_cases w : a = p
    · rw [w]; exact h5
    · rw [upd_ne w] at z1
      exact R.newF a z1 z2
  · obtain ⟨ov, g3, g4⟩ := R.slot j s g2
    refine ⟨ov, g3, ?_⟩
    cases s with
    | emp => trivial
    | val d =>
      obtain ⟨v, e, r⟩ := g4
      exact ⟨v, e, r.mono sF⟩
    | own b2 c2 =>
      obtain ⟨q2, o2, rfl, k2, k3, k4, k5⟩ := g4
      have ne : q2 ≠ p := fun w => fr j _ g2 rfl (by rw [g3, w])
      exact ⟨q2, o2, rfl, k2, k3.mono sF, by rw [upd_ne ne]; exact k4, k5⟩
    | pin q2 b2 c2 =>
      obtain ⟨rfl, o2, k2, k3, k4, k5⟩ := g4
      have ne : q2 ≠ p := fun w => fr j _ g2 rfl (by rw [g3, w])
      exact ⟨rfl, o2, k2, k3.mono sF, by rw [upd_ne ne]; exact k4, k5⟩
    | ins _ _ _ _ => exact ⟨g4.1, sF _ _ g4.2.1, fun x hx d hd => (g4.2.2 x hx d hd).mono sF⟩
  · obtain ⟨g1, g2, g3, g4⟩ := R.tmp t ht
    have ne : t.1 ≠ p := fun w => nt (w ▸ List.mem_map.mpr ⟨t, ht, rfl⟩)
    exact ⟨g1, by rw [upd_ne ne]; exact g2, g3, g4⟩
def M.map {α β : Type} (m : M α) (g : α → β) : M β := M.bind m fun a => M.pure (g a)
/-- a fresh object as a value -/
theorem PE.settled {e : Expr} {f : M Co} (h : PE X e (tN G W f)) : PE X e (tI G W (M.map f Co.d)) := PE.imp h fun σ H Q ⟨F, ρ, τ, R, q⟩ => ⟨F, ρ, τ, R, (Fin.bind q).imp fun c ρ' F' H' s R' z p fr => by
  obtain ⟨F2, s2, rp, R2⟩ := R'.fresh fr
  exact Fin.pure z F2 H' s2 R2 _ rp⟩
end
end Dn

/-! Expressions -/
namespace Dn
open PySem PySem.Spec PyProof.Rows L2
section
variable {bb : Bool} {X : Cx} {G : Gx} {W : WX} {k : Nat} {pos p p2 : Pos}

/-! ### constants, names -/
theorem tC_of {v : V} {d : D} (h : ∀ F, Rp G.K F v d) : ∀ σ H Q, tI G W (M.pure d) σ H Q → tC v σ H Q := fun σ H Q ⟨F, ρ, τ, R, q⟩ => q F H (Same.refl F) R v (h F)
theorem ei_int {i : Int} {j : Nat} : PE X (.Constant (.int i) j pos) (tI G W (M.pure (.int i))) := PE.imp pe_int (tC_of fun _ => .int i)
theorem ei_bl {b : Bool} {j : Nat} : PE X (.Constant (.bool b) j pos) (tI G W (M.pure (.bl b))) := PE.imp pe_bl (tC_of fun _ => .bl b)
theorem ei_non {j : Nat} : PE X (.Constant .none j pos) (tI G W (M.pure .non)) := PE.imp pe_non (tC_of fun _ => .non)
theorem ei_str {x : Str} {j : Nat} : PE X (.Constant (.str x) j pos) (tI G W (M.pure (.str x))) := PE.imp pe_str (tC_of fun _ => .str x)
/-- a module's constant -/
theorem ei_gint {x : Str} {i : Int} {t : Tok} (hm : X.mg x = some (.int i t)) (hg : Gl X x := by rfl) (hd : (x == ("__debug__" : Str)) = false := by decide) : PE X (.Name x pos) (tI G W (M.pure (.int i))) :=
  PE.imp (pe_glob hg hm (v := .int i) ⟨t, rfl⟩ hd) (tC_of fun _ => .int i)
/-- a name is read: what it owns is settled then -/
def rd (i : Nat) : M D := fun ρ => match ρ[i]? with
  | some (.val d) => some (.ok d ρ)
  | some (.own false c) => some (.ok c.d (ρ.set i (.val c.d)))
  | _ => none
theorem ei_var {i : Nat} {x : Str} (hN : X.N[i]? = some x := by rfl) (hv : Vis X.env.scope x := by first | exact Or.inl rfl | exact Or.inr (Or.inl rfl) | exact Or.inr (Or.inr rfl)) (hd : (x == ("__debug__" : Str)) = false := by decide)
    (hcd : (x == ("__classdict__" : Str)) = false := by decide) : PE X (.Name x pos) (tI G W (rd i)) := PE.imp (pe_var hN hv hd hcd) fun σ H Q ⟨F, ρ, τ, R, q⟩ => by
  unfold rd at q
  split at q
  · rename_i d e
    obtain ⟨v, h1, h2⟩ := R.val e
    exact ⟨v, h1, q F H (Same.refl F) R v h2⟩
  · rename_i c e
    obtain ⟨a, F', h1, s, rp, R'⟩ := R.freeze e
    exact ⟨_, h1, q F' H s R' _ rp⟩
  · exact q.elim
/-- a name is looked at -/
def Slot.d? : Slot → Option D
  | .val d => some d
  | .own _ c => some c.d
  | _ => none
def pk (i : Nat) : M D := fun ρ => match ρ[i]? with
  | some s => (s.d?).map fun d => .ok d ρ
  | none => none
theorem Rep.pk {F H : Hp} {ρ : Sto} {σ : L2.St} {τ : Tmp} (R : Rep G F H ρ σ τ) {i : Nat} {s : Slot} {d : D} (h : ρ[i]? = some s) (e : s.d? = some d) : ∃ v, σ[i]? = some (some v) ∧ Rp G.K H v d := by
  cases s with
  | emp => cases e
  | val d' =>
    have e' := Option.some.inj e
    subst e'
    obtain ⟨v, h1, h2⟩ := R.val h
    exact ⟨v, h1, h2.mono R.sub⟩
  | own b c =>
    have e' := Option.some.inj e
    subst e'
    obtain ⟨a, o, h1, h2, h3, _⟩ := R.own h
    exact ⟨_, h1, h3.rp R.sub h2⟩
  | pin _ _ _ => cases e
  | ins _ _ _ _ => cases e
theorem ek_var {i : Nat} {x : Str} (hN : X.N[i]? = some x := by rfl) (hv : Vis X.env.scope x := by first | exact Or.inl rfl | exact Or.inr (Or.inl rfl) | exact Or.inr (Or.inr rfl)) (hd : (x == ("__debug__" : Str)) = false := by decide)
    (hcd : (x == ("__classdict__" : Str)) = false := by decide) : PE X (.Name x pos) (tK G W (pk i)) := PE.imp (pe_var hN hv hd hcd) fun σ H Q ⟨F, ρ, τ, R, q⟩ => by
  unfold Dn.pk at q
  split at q
  · rename_i s e
    cases z : s.d? with
    | none => rw [z] at q; exact q.elim
    | some d =>
      rw [z] at q
      obtain ⟨v, h1, h2⟩ := R.pk e z
      exact ⟨v, h1, q F H (Same.refl F) R v h2⟩
  · exact q.elim

/-! ### two operands -/
def bin2 {α : Type} (g : D → D → Option α) (fa fb : M D) : M α := M.bind fa fun a => M.bind fb fun b => M.lift (g a b)
/-- on settled values; what comes may be new -/
def OpD (K : PySem.W.Frag) (r : R2) (g : D → D → Option D) : Prop := ∀ (F H : Hp) (x y : V) (a b d : D) (Q : VK), Same F H → Rp K F x a → Rp K F y b → g a b = some d → (∀ F' H' v, Ext F H F' H' → Rp K F' v d → Q v H') → r x y H Q
/-- the right one as it stands; the answer is True or False -/
def OpS (K : PySem.W.Frag) (r : R2) (g : D → D → Option Bool) : Prop := ∀ (F H : Hp) (x y : V) (a b : D) (c : Bool) (Q : VK), Same F H → Rp K F x a → Rp K H y b → g a b = some c → Q (.bl c) H → r x y H Q
theorem tOp_of {r : R2} {g : D → D → Option D} {fa fb : M D} (hr : OpD G.K r g) : ∀ σ H Q, tI G W (bin2 g fa fb) σ H Q → tOp r (tI G W fa) (tI G W fb) σ H Q := fun σ H Q ⟨F, ρ, τ, R, q⟩ =>
  ⟨F, ρ, τ, R, (Fin.bind q).imp fun a ρ1 F1 H1 s1 R1 q1 v rv => ⟨F1, ρ1, τ, R1, (Fin.bind q1).imp fun b ρ2 F2 H2 s2 R2 q2 w rw => by
    obtain ⟨d, e, z⟩ := Fin.lift q2
    exact hr F2 H2 v w a b d Q R2.sub (rv.mono s2) rw e fun F' H' u ex ru => z F' H' ex.f (R2.ext ex) u ru⟩⟩
theorem tOpS_of {r : R2} {g : D → D → Option Bool} {fa fb : M D} {Q' : V → Hp → Prop} {σ : L2.St} {H : Hp} {Q : Bool → Hp → Prop} (hr : OpS G.K r g) (hQ : ∀ b H', Q b H' → Q' (.bl b) H') : tT G W (bin2 g fa fb) σ H Q → tOp r (tI G W fa) (tK G W fb) σ H Q' := fun ⟨F, ρ, τ, R, q⟩ =>
  ⟨F, ρ, τ, R, (Fin.bind q).imp fun a ρ1 F1 H1 s1 R1 q1 v rv => ⟨F1, ρ1, τ, R1, (Fin.bind q1).imp fun b ρ2 F2 H2 s2 R2 q2 w rw => by
    obtain ⟨d, e, z⟩ := Fin.lift q2
    exact hr F2 H2 v w a b d Q' R2.sub (rv.mono s2) rw e (hQ d H2 (z F2 H2 (Same.refl _) R2))⟩⟩
theorem ei_op {op : Operator} {r : R2} {g : D → D → Option D} {a b : Expr} {fa fb : M D} (c : Kx bb X G W k) (ho : OpR X (binaryOp op) r) (hr : OpD X.K r g) (ha : PE X a (tI G W fa)) (hb : PE X b (tI G W fb)) : PE X (.BinOp a op b pos) (tI G W (bin2 g fa fb)) :=
  PE.imp (pe_op ho ha hb) (tOp_of (by rw [c.hK]; exact hr))
/-- a test by a comparison; its answer as a value -/
theorem et_cmp {op : CmpOp} {r : R2} {g : D → D → Option Bool} {a b : Expr} {fa fb : M D} (c : Kx bb X G W k) (ho : OpR X (compareOp op) r) (hr : OpS X.K r g) (ha : PE X a (tI G W fa)) (hb : PE X b (tK G W fb)) (hm : behindInMarks op b = false) :
    PT X (.Compare a [op] [b] pos) (tT G W (bin2 g fa fb)) := PT.imp (pt_cmpR ho ha hb hm) fun σ H Q q => tOpS_of (Q' := fun x H' => ∃ k, x = .bl k ∧ Q k H') (by rw [c.hK]; exact hr) (fun b H' z => ⟨b, rfl, z⟩) q
def M.b {f : M Bool} : M D := M.map f D.bl
theorem tT_b {f : M Bool} {σ : L2.St} {H : Hp} {Q : VK} : tI G W (M.map f D.bl) σ H Q → tT G W f σ H fun b H' => Q (.bl b) H' := fun ⟨F, ρ, τ, R, q⟩ =>
  ⟨F, ρ, τ, R, (Fin.bind q).imp fun b ρ' F' H' s R' z => Fin.pure z F' H' (Same.refl _) R' (.bl b) (.bl b)⟩
theorem ei_cmp {op : CmpOp} {r : R2} {g : D → D → Option Bool} {a b : Expr} {fa fb : M D} (c : Kx bb X G W k) (ho : OpR X (compareOp op) r) (hr : OpS X.K r g) (ha : PE X a (tI G W fa)) (hb : PE X b (tK G W fb)) (hm : behindInMarks op b = false) :
    PE X (.Compare a [op] [b] pos) (tI G W (M.map (bin2 g fa fb) D.bl)) := PE.imp (pe_cmpR ho ha hb hm) fun σ H Q q => tOpS_of (by rw [c.hK]; exact hr) (fun b H' z => z) (tT_b q)

/-! ### the operators -/
def D.i? : D → Option Int
  | .int i => some i
  | _ => none
def gI (C : Int → Int → Bool) (f : Int → Int → Int) (a b : D) : Option D := match a, b with
  | .int i, .int j => if C i j then some (.int (f i j)) else none
  | _, _ => none
theorem gI_of {K : PySem.W.Frag} {C : Int → Int → Prop} {C' : Int → Int → Bool} {f : Int → Int → Int} (h : ∀ i j, C' i j = true → C i j) : OpD K (rI C fun i j => .int (f i j)) (gI C' f) := fun F H x y a b d Q s rx ry e q => by
  unfold gI at e
  split at e
  · rename_i i j
    split at e
    · rename_i hc
      cases e
      cases rx
      cases ry
      exact ⟨i, j, rfl, rfl, h i j hc, q F H _ (Ext.refl s) (.int _)⟩
    · cases e
  · cases e
theorem gI0_of {K : PySem.W.Frag} {f : Int → Int → Int} : OpD K (rI0 fun i j => .int (f i j)) (gI (fun _ _ => true) f) := fun F H x y a b d Q s rx ry e q => by
  unfold gI at e
  split at e
  · rename_i i j
    cases e
    cases rx
    cases ry
    exact ⟨i, j, rfl, rfl, q F H _ (Ext.refl s) (.int _)⟩
  · cases e
def subD : D → D → Option D := gI (fun _ _ => true) (· - ·)
def mulD : D → D → Option D := gI (fun i j => decide ((-(2 ^ 64) < i ∧ i < 2 ^ 64) ∨ (-(2 ^ 64) < j ∧ j < 2 ^ 64))) (· * ·)
def divD : D → D → Option D := gI (fun _ j => decide (j ≠ 0 ∧ j.natAbs < 1073741824)) Int.fdiv
def modD : D → D → Option D := gI (fun _ j => decide (j ≠ 0)) Int.fmod
abbrev powC (i j : Int) : Bool := decide (0 ≤ j ∧ j ≤ 1000000 ∧ i.natAbs < 2 ^ 64)
def powD : D → D → Option D := gI powC fun i j => i ^ j.toNat
def shlD : D → D → Option D := gI powC fun i j => i * 2 ^ j.toNat
theorem ei_sub {a b : Expr} {fa fb : M D} (c : Kx bb X G W k) (ha : PE X a (tI G W fa)) (hb : PE X b (tI G W fb)) : PE X (.BinOp a .Sub b pos) (tI G W (bin2 subD fa fb)) := ei_op c op_sub gI0_of ha hb
theorem ei_mul {a b : Expr} {fa fb : M D} (c : Kx bb X G W k) (ha : PE X a (tI G W fa)) (hb : PE X b (tI G W fb)) : PE X (.BinOp a .Mult b pos) (tI G W (bin2 mulD fa fb)) := ei_op c op_mul (gI_of fun i j h => have h' := of_decide_eq_true h; h') ha hb
theorem ei_div {a b : Expr} {fa fb : M D} (c : Kx bb X G W k) (ha : PE X a (tI G W fa)) (hb : PE X b (tI G W fb)) : PE X (.BinOp a .FloorDiv b pos) (tI G W (bin2 divD fa fb)) := ei_op c op_fdivN (gI_of fun i j h => have h' := of_decide_eq_true h; h') ha hb
theorem ei_mod {a b : Expr} {fa fb : M D} (c : Kx bb X G W k) (ha : PE X a (tI G W fa)) (hb : PE X b (tI G W fb)) : PE X (.BinOp a .Mod b pos) (tI G W (bin2 modD fa fb)) := ei_op c op_modN (gI_of fun i j h => have h' := of_decide_eq_true h; h') ha hb
theorem ei_pow {a b : Expr} {fa fb : M D} (c : Kx bb X G W k) (ha : PE X a (tI G W fa)) (hb : PE X b (tI G W fb)) : PE X (.BinOp a .Pow b pos) (tI G W (bin2 powD fa fb)) := ei_op c op_pow (gI_of fun i j h => have h' := of_decide_eq_true h; h') ha hb
theorem ei_shl {a b : Expr} {fa fb : M D} (c : Kx bb X G W k) (ha : PE X a (tI G W fa)) (hb : PE X b (tI G W fb)) : PE X (.BinOp a .LShift b pos) (tI G W (bin2 shlD fa fb)) := ei_op c op_shl (gI_of fun i j h => have h' := of_decide_eq_true h; h') ha hb
/-- ints, texts, lists, tuples -/
def addD : D → D → Option D
  | .int i, .int j => some (.int (i + j))
  | .str x, .str y => if x.length + y.length ≤ 100000 then some (.str (x ++ y)) else none
  | .lst x, .lst y => if x.length + y.length ≤ 100000 then some (.lst (x ++ y)) else none
  | .tup x, .tup y => if x.length + y.length ≤ 100000 then some (.tup (x ++ y)) else none
  | _, _ => none
theorem line5 {n : Nat} (h : n ≤ 100000) : n ≤ sizeLine := Nat.le_trans h (by rw [sizeLine_eq]; decide)
theorem OpD.or {K : PySem.W.Frag} {r r' : R2} {g g' g2 : D → D → Option D} (h : OpD K r g) (h' : OpD K r' g') (hg : ∀ a b d, g2 a b = some d → g a b = some d ∨ g' a b = some d) : OpD K (fun x y H Q => r x y H Q ∨ r' x y H Q) g2 := fun F H x y a b d Q s rx ry e q => by
  rcases hg a b d e with e | e
  · exact .inl (h F H x y a b d Q s rx ry e q)
  · exact .inr (h' F H x y a b d Q s rx ry e q)
def catS : D → D → Option D
  | .str x, .str y => if x.length + y.length ≤ 100000 then some (.str (x ++ y)) else none
  | _, _ => none
def catL : D → D → Option D
  | .lst x, .lst y => if x.length + y.length ≤ 100000 then some (.lst (x ++ y)) else none
  | _, _ => none
def catT : D → D → Option D
  | .tup x, .tup y => if x.length + y.length ≤ 100000 then some (.tup (x ++ y)) else none
  | _, _ => none
theorem RpA.nil_iff {K : PySem.W.Frag} {F : Hp} {vs : List V} {ds : List D} (h : RpA K F vs ds) : vs = [] ↔ ds = [] := by
  cases h with
  | nil => exact ⟨fun _ => rfl, fun _ => rfl⟩
  | cons _ _ => exact ⟨fun z => (by cases z), fun z => (by cases z)⟩
theorem catS_of {K : PySem.W.Frag} : OpD K (fun x y H Q => ∃ i j, x = .str i ∧ y = .str j ∧ i.length + j.length ≤ sizeLine ∧ Q (.str (i ++ j)) H) catS := fun F H x y a b d Q s rx ry e q => by
  unfold catS at e
  split at e
  · split at e
    · rename_i h
      cases e
      cases rx
      cases ry
      exact ⟨_, _, rfl, rfl, line5 h, q F H _ (Ext.refl s) (.str _)⟩
    · cases e
  · cases e
theorem catL_of {K : PySem.W.Frag} : OpD K rCat catL := fun F H x y a b d Q s rx ry e q => by
  unfold catL at e
  split at e
  · split at e
    · rename_i h
      cases e
      cases rx with
      | lst h1 r1 =>
        cases ry with
        | lst h2 r2 =>
          refine ⟨_, _, _, _, rfl, rfl, s _ _ h1, s _ _ h2, by rw [r1.length, r2.length]; exact line5 h, fun p hp => ?_⟩
          exact q _ _ _ (Ext.new _ s hp) (.lst upd_same ((r1.append r2).mono (same_upd (s.free hp))))
    · cases e
  · cases e
theorem catT_of {K : PySem.W.Frag} : OpD K (rCatA K) catT := fun F H x y a b d Q s rx ry e q => by
  unfold catT at e
  split at e
  · split at e
    · rename_i h
      cases e
      cases rx with
      | tup h1 r1 =>
        cases ry with
        | tup h2 r2 =>
          refine ⟨_, _, _, _, rfl, rfl, .of (s _ _ h1), .of (s _ _ h2), by rw [r1.length, r2.length]; exact line5 h, fun z => ?_, fun _ z => ?_, fun _ _ p hp => ?_⟩
          · have e1 := r1.nil_iff.mp z
            subst e1
            exact q F H _ (Ext.refl s) (.tup h2 r2)
          · have e1 := r2.nil_iff.mp z
            subst e1
            rw [List.append_nil] at q
            exact q F H _ (Ext.refl s) (.tup h1 r1)
          · exact q _ _ _ (Ext.new _ s hp) (.tup upd_same ((r1.append r2).mono (same_upd (s.free hp))))
    · cases e
  · cases e
theorem addD_of {K : PySem.W.Frag} : OpD K (fun x y H Q => rI0 (fun i j => .int (i + j)) x y H Q ∨ ((∃ i j, x = .str i ∧ y = .str j ∧ i.length + j.length ≤ sizeLine ∧ Q (.str (i ++ j)) H) ∨ (rCat x y H Q ∨ rCatA K x y H Q))) addD :=
  OpD.or (g := gI (fun _ _ => true) (· + ·)) gI0_of (OpD.or (g := catS) (g2 := fun a b => match a, b with | .int _, .int _ => none | a, b => addD a b) catS_of (OpD.or (g := catL) (g' := catT) (g2 := fun a b => match a, b with | .int _, .int _ => none | .str _, .str _ => none | a, b => addD a b) catL_of catT_of fun a b d e => by
    cases a <;> cases b <;> first
      | (exfalso; revert e; simp [addD]; done)
      | exact .inl e
      | exact .inr e) fun a b d e => by
    cases a <;> cases b <;> first
      | (exfalso; revert e; simp [addD]; done)
      | exact .inl e
      | exact .inr e) fun a b d e => by
    cases a <;> cases b <;> first
      | (exfalso; revert e; simp [addD]; done)
      | exact .inl e
      | exact .inr e
theorem ei_add {a b : Expr} {fa fb : M D} (c : Kx bb X G W k) (ha : PE X a (tI G W fa)) (hb : PE X b (tI G W fb)) : PE X (.BinOp a .Add b pos) (tI G W (bin2 addD fa fb)) :=
  ei_op c (op_add.or (op_add_str.or (op_cat.or op_catA))) addD_of ha hb
end
end Dn

/-! Comparisons, truth, subscripts, displays -/
namespace Dn
open PySem PySem.Spec PyProof.Rows L2
section
variable {bb : Bool} {X : Cx} {G : Gx} {W : WX} {k : Nat} {pos p p2 : Pos}

/-! ### == and the orders -/
def eqD (a b : D) : Option Bool := if lay 9 a && lay 9 b then some (eqv 9 a b) else none
def neD (a b : D) : Option Bool := if lay 9 a && lay 9 b then some (!eqv 9 a b) else none
theorem eqD_of {K : PySem.W.Frag} : OpS K (rEqD K) eqD := fun F H x y a b c Q s rx ry e q => by
  unfold eqD at e
  split at e
  · rename_i h
    rw [Bool.and_eq_true] at h
    have e' := Option.some.inj e
    rw [eqv_py 9 a b h.1 h.2] at e'
    refine ⟨_, _, (rx.mono s).dp (Same.refl H) h.1, ry.dp (Same.refl H) h.2, shaped_py (by decide) h.1, shaped_py (by decide) h.2, ?_⟩
    rw [e']; exact q
  · cases e
theorem neD_of {K : PySem.W.Frag} : OpS K (rNeD K) neD := fun F H x y a b c Q s rx ry e q => by
  unfold neD at e
  split at e
  · rename_i h
    rw [Bool.and_eq_true] at h
    have e' := Option.some.inj e
    rw [eqv_py 9 a b h.1 h.2] at e'
    refine ⟨_, _, (rx.mono s).dp (Same.refl H) h.1, ry.dp (Same.refl H) h.2, shaped_py (by decide) h.1, shaped_py (by decide) h.2, ?_⟩
    rw [e']; exact q
  · cases e
def gB (f : Int → Int → Bool) (a b : D) : Option Bool := match a, b with
  | .int i, .int j => some (f i j)
  | _, _ => none
theorem gB_of {K : PySem.W.Frag} {f : Int → Int → Bool} : OpS K (rI0 fun i j => .bl (f i j)) (gB f) := fun F H x y a b c Q s rx ry e q => by
  unfold gB at e
  split at e
  · cases e
    cases rx
    cases ry
    exact ⟨_, _, rfl, rfl, q⟩
  · cases e
def ltD : D → D → Option Bool := gB fun i j => decide (i < j)
def leD : D → D → Option Bool := gB fun i j => decide (i ≤ j)
def gtD : D → D → Option Bool := gB fun i j => decide (j < i)
def geD : D → D → Option Bool := gB fun i j => decide (j ≤ i)
/-- is None; is of truth values -/
def D.isNon : D → Bool
  | .non => true
  | _ => false
def isD (a b : D) : Option Bool := match a, b with
  | a, .non => some a.isNon
  | .bl x, .bl y => some (decide (x = y))
  | _, _ => none
def isntD (a b : D) : Option Bool := (isD a b).map (!·)
theorem non_iff {K : PySem.W.Frag} {F : Hp} {x : V} {a : D} (r : Rp K F x a) : decide (x = .non) = a.isNon := by
  cases r <;> first | rfl | (simp [D.isNon])
theorem isD_of {K : PySem.W.Frag} : OpS K (fun x y H Q => (y = .non ∧ Q (.bl (decide (x = .non))) H) ∨ rIsB x y H Q) isD := fun F H x y a b c Q s rx ry e q => by
  unfold isD at e
  split at e
  · cases e
    cases ry
    exact .inl ⟨rfl, by rw [non_iff rx]; exact q⟩
  · cases e
    cases rx
    cases ry
    exact .inr ⟨_, _, rfl, rfl, q⟩
  · cases e
theorem isntD_of {K : PySem.W.Frag} : OpS K (fun x y H Q => (y = .non ∧ Q (.bl (!decide (x = .non))) H) ∨ rNotB x y H Q) isntD := fun F H x y a b c Q s rx ry e q => by
  unfold isntD isD at e
  split at e
  · cases e
    cases ry
    exact .inl ⟨rfl, by rw [non_iff rx]; exact q⟩
  · cases e
    cases rx
    cases ry
    exact .inr ⟨_, _, rfl, rfl, q⟩
  · cases e

/-! ### keys of dicts -/
def keyK : D → Option Key
  | .int i => some (.inl i)
  | .str s => some (.inr s)
  | _ => none
def keysK : List D → Option (List Key)
  | [] => some []
  | d :: r => match keyK d, keysK r with
    | some k, some ks => some (k :: ks)
    | _, _ => none
def keyT : D → Option (List Key)
  | .tup l => keysK l
  | _ => none
theorem keyK_kD (k : Key) : keyK (kD k) = some k := by cases k <;> rfl
theorem keysK_kD : ∀ ks : List Key, keysK (ks.map kD) = some ks
  | [] => rfl
  | k :: r => by rw [List.map_cons, keysK, keyK_kD, keysK_kD r]
theorem keyT_kTD (k : List Key) : keyT (kTD k) = some k := keysK_kD k
theorem Rp.keyK {K : PySem.W.Frag} {F : Hp} {x : V} {a : D} {k : Key} (r : Rp K F x a) (h : Dn.keyK a = some k) : x = kV k := by
  cases r <;> simp [Dn.keyK] at h
  · subst h; rfl
  · subst h; rfl
theorem RpA.keysK {K : PySem.W.Frag} {F : Hp} : ∀ {vs : List V} {l : List D} {ks : List Key}, RpA K F vs l → Dn.keysK l = some ks → vs = ks.map kV
  | _, _, _, .nil, h => by
    have e := Option.some.inj h
    subst e
    rfl
  | _, _, _, .cons (v := v) (d := d) (ds := ds) r q, h => by
    unfold Dn.keysK at h
    split at h
    · rename_i k ks h1 h2
      have e := Option.some.inj h
      subst e
      rw [List.map_cons, r.keyK h1, RpA.keysK q h2]
    · cases h
theorem Rp.keyT {K : PySem.W.Frag} {F : Hp} {x : V} {a : D} {k : List Key} (r : Rp K F x a) (h : Dn.keyT a = some k) : ∃ b, x = .ref b ∧ F b = some (.tup (k.map kV)) := by
  cases r <;> simp only [Dn.keyT, reduceCtorEq] at h
  rename_i a xs ds h1 r1
  have e := r1.keysK h
  exact ⟨_, rfl, by rw [h1, e]⟩
/-- what is found under a key -/
def look {κ : Type} [DecidableEq κ] (key : D → Option κ) : List D → List D → κ → Option D
  | kd :: ks, v :: vs, x => if key kd = some x then some v else look key ks vs x
  | _, _, _ => none
theorem look_T {K : PySem.W.Frag} {F : Hp} (k : List Key) : ∀ {kvs : List (List Key × V)} {vs : List D}, RpA K F (kvs.map (·.2)) vs → ∀ o, look keyT (kvs.map fun q => kTD q.1) vs k = o →
    (o = none → valV kvs k = none) ∧ (∀ d, o = some d → ∃ v, valV kvs k = some v ∧ Rp K F v d)
  | [], _, _, o, h => by
    have e : o = none := h.symm
    subst e
    exact ⟨fun _ => rfl, fun d z => (by cases z)⟩
  | q :: kvs, _, .cons r t, o, h => by
    rw [List.map_cons, look, keyT_kTD] at h
    by_cases e : q.1 = k
    · rw [if_pos (by rw [e])] at h
      subst h
      exact ⟨fun z => (by cases z), fun d z => ⟨q.2, valV_pos e, (by cases z; exact r)⟩⟩
    · rw [if_neg (fun z => e (Option.some.inj z))] at h
      have ih := look_T k t o h
      rw [valV_neg e]
      exact ih
theorem look_K {K : PySem.W.Frag} {F : Hp} (k : Key) : ∀ {kvs : List (Key × V)} {vs : List D}, RpA K F (kvs.map (·.2)) vs → ∀ o, look keyK (kvs.map fun q => kD q.1) vs k = o →
    (o = none → valV kvs k = none) ∧ (∀ d, o = some d → ∃ v, valV kvs k = some v ∧ Rp K F v d)
  | [], _, _, o, h => by
    have e : o = none := h.symm
    subst e
    exact ⟨fun _ => rfl, fun d z => (by cases z)⟩
  | q :: kvs, _, .cons r t, o, h => by
    rw [List.map_cons, look, keyK_kD] at h
    by_cases e : q.1 = k
    · rw [if_pos (by rw [e])] at h
      subst h
      exact ⟨fun z => (by cases z), fun d z => ⟨q.2, valV_pos e, (by cases z; exact r)⟩⟩
    · rw [if_neg (fun z => e (Option.some.inj z))] at h
      have ih := look_K k t o h
      rw [valV_neg e]
      exact ih
/-- some _: it is a dict that can be asked for such a key -/
def dget (c a : D) : Option (Option D) := match c with
  | .dic true ks vs => (keyT a).map fun k => look keyT ks vs k
  | .dic false ks vs => (keyK a).map fun k => look keyK ks vs k
  | _ => none
theorem dget_of {K : PySem.W.Frag} {H : Hp} {x y : V} {c a : D} {o : Option D} (rx : Rp K H x c) (ry : Rp K H y a) (h : dget c a = some o) :
    ∃ p ov, x = .ref p ∧ DGet H p y ov ∧ (o = none → ov = none) ∧ ∀ d, o = some d → ∃ v, ov = some v ∧ Rp K H v d := by
  cases rx <;> simp only [dget, reduceCtorEq, Option.map_eq_some_iff] at h
  · rename_i p kvs vs h1 r1
    obtain ⟨k, hk, e⟩ := h
    obtain ⟨b, rfl, hb⟩ := ry.keyT hk
    obtain ⟨z1, z2⟩ := look_T k r1 _ e
    exact ⟨p, _, rfl, .t h1 hb, z1, z2⟩
  · rename_i p kvs vs h1 r1
    obtain ⟨k, hk, e⟩ := h
    have ey := ry.keyK hk
    subst ey
    obtain ⟨z1, z2⟩ := look_K k r1 _ e
    exact ⟨p, _, rfl, .k h1, z1, z2⟩

/-! ### in -/
theorem op_inT (hu : X.A.units + 65 < cLine) : OpR X (compareOp .In) (fun x y H Q => ∃ d ds, Dp X.K H x d ∧ Dp X.K H y (.tuple ds) ∧ SeqAt.shaped d = true ∧ SeqAt.shaped (.tuple ds) = true ∧ Q (.bl (ds.any fun z => PyData.eqv z d)) H) := fun pins s σ H x y v u Q I rx ry ⟨d, ds, hd, he, sd, se, q⟩ => by
  obtain ⟨as, r1⟩ := Dp.reads I d x v hd rx
  obtain ⟨bs, r2⟩ := Dp.reads I _ y u he ry
  exact SeqAt.in_tuple_reads r2 r1 (SeqAt.canLay_of_shaped se) (SeqAt.canLay_of_shaped sd) (PyProof.Rows.room_in_shaped sd hu) (show EP X pins σ Q _ s from ⟨.bl _, H, I, rfl, q⟩)
theorem op_niT (hu : X.A.units + 65 < cLine) : OpR X (compareOp .NotIn) (fun x y H Q => ∃ d ds, Dp X.K H x d ∧ Dp X.K H y (.tuple ds) ∧ SeqAt.shaped d = true ∧ SeqAt.shaped (.tuple ds) = true ∧ Q (.bl (!ds.any fun z => PyData.eqv z d)) H) := fun pins s σ H x y v u Q I rx ry ⟨d, ds, hd, he, sd, se, q⟩ => by
  obtain ⟨as, r1⟩ := Dp.reads I d x v hd rx
  obtain ⟨bs, r2⟩ := Dp.reads I _ y u he ry
  exact SeqAt.notIn_tuple_reads r2 r1 (SeqAt.canLay_of_shaped se) (SeqAt.canLay_of_shaped sd) (PyProof.Rows.room_in_shaped sd hu) (show EP X pins σ Q _ s from ⟨.bl _, H, I, rfl, q⟩)
theorem op_inDict (hu : X.A.units + 65 < cLine) : OpR X (compareOp .In) (fun x y H Q => ∃ a o, y = .ref a ∧ DGet H a x o ∧ Q (.bl o.isSome) H) := fun pins s σ H x y v u Q I rx ry ⟨a, o, ey, g, q⟩ => by
  subst ey
  cases ry
  exact d_in (by omega) I g rx fun s' I' => ⟨.bl _, H, I', rfl, q⟩
theorem op_niDict (hu : X.A.units + 65 < cLine) : OpR X (compareOp .NotIn) (fun x y H Q => ∃ a o, y = .ref a ∧ DGet H a x o ∧ Q (.bl (!o.isSome)) H) := fun pins s σ H x y v u Q I rx ry ⟨a, o, ey, g, q⟩ => by
  subst ey
  cases ry
  exact d_notIn (by omega) I g rx fun s' I' => ⟨.bl _, H, I', rfl, q⟩
def inD (a b : D) : Option Bool := match b with
  | .lst ds => if lay 9 a && ds.all (lay 9) then some (ds.any fun z => eqv 9 z a) else none
  | .tup ds => if lay 9 a && ds.all (lay 9) then some (ds.any fun z => eqv 9 z a) else none
  | b => (dget b a).map (·.isSome)
def niD (a b : D) : Option Bool := (inD a b).map (!·)
theorem any_py {a : D} (ha : lay 9 a = true) : ∀ {ds : List D}, ds.all (lay 9) = true → (ds.map (py 9)).any (fun z => PyData.eqv z (py 9 a)) = ds.any fun z => eqv 9 z a
  | [], _ => rfl
  | d :: r, h => by
    rw [List.all_cons, Bool.and_eq_true] at h
    rw [List.map_cons, List.any_cons, List.any_cons, any_py ha h.2, eqv_py 9 d a h.1 ha]
/-- the three roads of in -/
theorem inD_of {K : PySem.W.Frag} {H : Hp} {x y : V} {a b : D} {c : Bool} (rx : Rp K H x a) (ry : Rp K H y b) (e : inD a b = some c) :
    (∃ d ds, Dp K H x d ∧ Dp K H y (.list ds) ∧ SeqAt.shaped d = true ∧ SeqAt.shaped (.list ds) = true ∧ (ds.any fun z => PyData.eqv z d) = c) ∨
    (∃ d ds, Dp K H x d ∧ Dp K H y (.tuple ds) ∧ SeqAt.shaped d = true ∧ SeqAt.shaped (.tuple ds) = true ∧ (ds.any fun z => PyData.eqv z d) = c) ∨
    ∃ p o, y = .ref p ∧ DGet H p x o ∧ o.isSome = c := by
  unfold inD at e
  split at e
  · split at e
    · rename_i h
      rw [Bool.and_eq_true] at h
      have hl : lay 10 (.lst _) = true := h.2
      refine .inl ⟨_, _, rx.dp (Same.refl H) h.1, ry.dp (n := 10) (Same.refl H) hl, shaped_py (by decide) h.1, shaped_py (n := 10) (by decide) hl, ?_⟩
      rw [any_py h.1 h.2]
      exact Option.some.inj e
    · cases e
  · split at e
    · rename_i h
      rw [Bool.and_eq_true] at h
      have hl : lay 10 (.tup _) = true := h.2
      refine .inr (.inl ⟨_, _, rx.dp (Same.refl H) h.1, ry.dp (n := 10) (Same.refl H) hl, shaped_py (by decide) h.1, shaped_py (n := 10) (by decide) hl, ?_⟩)
      rw [any_py h.1 h.2]
      exact Option.some.inj e
    · cases e
  · obtain ⟨o, h1, h2⟩ := Option.map_eq_some_iff.mp e
    obtain ⟨p, ov, e1, g, z1, z2⟩ := dget_of ry rx h1
    refine .inr (.inr ⟨p, ov, e1, g, ?_⟩)
    cases o with
    | none => rw [z1 rfl]; exact h2
    | some d =>
      obtain ⟨v, ev, _⟩ := z2 d rfl
      rw [ev]; exact h2
theorem inS_of {K : PySem.W.Frag} : OpS K (fun x y H Q => rInD K x y H Q ∨ ((∃ d ds, Dp K H x d ∧ Dp K H y (.tuple ds) ∧ SeqAt.shaped d = true ∧ SeqAt.shaped (.tuple ds) = true ∧ Q (.bl (ds.any fun z => PyData.eqv z d)) H) ∨ ∃ a o, y = .ref a ∧ DGet H a x o ∧ Q (.bl o.isSome) H)) inD := fun F H x y a b c Q s rx ry e q => by
  rcases inD_of (rx.mono s) ry e with ⟨d, ds, h1, h2, h3, h4, h5⟩ | ⟨d, ds, h1, h2, h3, h4, h5⟩ | ⟨p, o, h1, h2, h3⟩
  · exact .inl ⟨d, ds, h1, h2, h3, h4, by rw [h5]; exact q⟩
  · exact .inr (.inl ⟨d, ds, h1, h2, h3, h4, by rw [h5]; exact q⟩)
  · exact .inr (.inr ⟨p, o, h1, h2, by rw [h3]; exact q⟩)
theorem niS_of {K : PySem.W.Frag} : OpS K (fun x y H Q => rNotInD K x y H Q ∨ ((∃ d ds, Dp K H x d ∧ Dp K H y (.tuple ds) ∧ SeqAt.shaped d = true ∧ SeqAt.shaped (.tuple ds) = true ∧ Q (.bl (!ds.any fun z => PyData.eqv z d)) H) ∨ ∃ a o, y = .ref a ∧ DGet H a x o ∧ Q (.bl (!o.isSome)) H)) niD := fun F H x y a b c Q s rx ry e q => by
  obtain ⟨c', h1, h2⟩ := Option.map_eq_some_iff.mp e
  subst h2
  rcases inD_of (rx.mono s) ry h1 with ⟨d, ds, h1, h2, h3, h4, h5⟩ | ⟨d, ds, h1, h2, h3, h4, h5⟩ | ⟨p, o, h1, h2, h3⟩
  · exact .inl ⟨d, ds, h1, h2, h3, h4, by rw [h5]; exact q⟩
  · exact .inr (.inl ⟨d, ds, h1, h2, h3, h4, by rw [h5]; exact q⟩)
  · exact .inr (.inr ⟨p, o, h1, h2, by rw [h3]; exact q⟩)
end
end Dn

namespace Dn
open PySem PySem.Spec PyProof.Rows L2
section
variable {bb : Bool} {X : Cx} {G : Gx} {W : WX} {k : Nat} {pos p p2 : Pos} {a b c e : Expr} {fa fb fc : M D}
theorem Kx.u64 (c : Kx bb X G W k) : X.A.units + 64 < cLine := by have := c.un; omega
theorem Kx.u65 (c : Kx bb X G W (k + 1)) : X.A.units + 65 < cLine := by have := c.un; omega

/-! ### comparisons, as values and as tests -/
theorem ei_eq (c : Kx bb X G W k) (ha : PE X a (tI G W fa)) (hb : PE X b (tK G W fb)) : PE X (.Compare a [.Eq] [b] pos) (tI G W (M.map (bin2 eqD fa fb) D.bl)) := ei_cmp c (op_eqD c.u64) eqD_of ha hb (nomark _)
theorem et_eq (c : Kx bb X G W k) (ha : PE X a (tI G W fa)) (hb : PE X b (tK G W fb)) : PT X (.Compare a [.Eq] [b] pos) (tT G W (bin2 eqD fa fb)) := et_cmp c (op_eqD c.u64) eqD_of ha hb (nomark _)
theorem ei_ne (c : Kx bb X G W k) (ha : PE X a (tI G W fa)) (hb : PE X b (tK G W fb)) : PE X (.Compare a [.NotEq] [b] pos) (tI G W (M.map (bin2 neD fa fb) D.bl)) := ei_cmp c (op_neD c.u64) neD_of ha hb (nomark _)
theorem et_ne (c : Kx bb X G W k) (ha : PE X a (tI G W fa)) (hb : PE X b (tK G W fb)) : PT X (.Compare a [.NotEq] [b] pos) (tT G W (bin2 neD fa fb)) := et_cmp c (op_neD c.u64) neD_of ha hb (nomark _)
theorem ei_lt (c : Kx bb X G W k) (ha : PE X a (tI G W fa)) (hb : PE X b (tK G W fb)) : PE X (.Compare a [.Lt] [b] pos) (tI G W (M.map (bin2 ltD fa fb) D.bl)) := ei_cmp c op_lt gB_of ha hb (nomark _)
theorem et_lt (c : Kx bb X G W k) (ha : PE X a (tI G W fa)) (hb : PE X b (tK G W fb)) : PT X (.Compare a [.Lt] [b] pos) (tT G W (bin2 ltD fa fb)) := et_cmp c op_lt gB_of ha hb (nomark _)
theorem ei_le (c : Kx bb X G W k) (ha : PE X a (tI G W fa)) (hb : PE X b (tK G W fb)) : PE X (.Compare a [.LtE] [b] pos) (tI G W (M.map (bin2 leD fa fb) D.bl)) := ei_cmp c op_le gB_of ha hb (nomark _)
theorem et_le (c : Kx bb X G W k) (ha : PE X a (tI G W fa)) (hb : PE X b (tK G W fb)) : PT X (.Compare a [.LtE] [b] pos) (tT G W (bin2 leD fa fb)) := et_cmp c op_le gB_of ha hb (nomark _)
theorem ei_gt (c : Kx bb X G W k) (ha : PE X a (tI G W fa)) (hb : PE X b (tK G W fb)) : PE X (.Compare a [.Gt] [b] pos) (tI G W (M.map (bin2 gtD fa fb) D.bl)) := ei_cmp c op_gt gB_of ha hb (nomark _)
theorem et_gt (c : Kx bb X G W k) (ha : PE X a (tI G W fa)) (hb : PE X b (tK G W fb)) : PT X (.Compare a [.Gt] [b] pos) (tT G W (bin2 gtD fa fb)) := et_cmp c op_gt gB_of ha hb (nomark _)
theorem ei_ge (c : Kx bb X G W k) (ha : PE X a (tI G W fa)) (hb : PE X b (tK G W fb)) : PE X (.Compare a [.GtE] [b] pos) (tI G W (M.map (bin2 geD fa fb) D.bl)) := ei_cmp c op_ge gB_of ha hb (nomark _)
theorem et_ge (c : Kx bb X G W k) (ha : PE X a (tI G W fa)) (hb : PE X b (tK G W fb)) : PT X (.Compare a [.GtE] [b] pos) (tT G W (bin2 geD fa fb)) := et_cmp c op_ge gB_of ha hb (nomark _)
theorem ei_is (c : Kx bb X G W k) (ha : PE X a (tI G W fa)) (hb : PE X b (tK G W fb)) : PE X (.Compare a [.Is] [b] pos) (tI G W (M.map (bin2 isD fa fb) D.bl)) := ei_cmp c (op_isN.or op_isBl) isD_of ha hb (nomark _)
theorem et_is (c : Kx bb X G W k) (ha : PE X a (tI G W fa)) (hb : PE X b (tK G W fb)) : PT X (.Compare a [.Is] [b] pos) (tT G W (bin2 isD fa fb)) := et_cmp c (op_isN.or op_isBl) isD_of ha hb (nomark _)
theorem ei_isnt (c : Kx bb X G W k) (ha : PE X a (tI G W fa)) (hb : PE X b (tK G W fb)) : PE X (.Compare a [.IsNot] [b] pos) (tI G W (M.map (bin2 isntD fa fb) D.bl)) := ei_cmp c (op_notN.or op_notBl) isntD_of ha hb (nomark _)
theorem et_isnt (c : Kx bb X G W k) (ha : PE X a (tI G W fa)) (hb : PE X b (tK G W fb)) : PT X (.Compare a [.IsNot] [b] pos) (tT G W (bin2 isntD fa fb)) := et_cmp c (op_notN.or op_notBl) isntD_of ha hb (nomark _)
theorem ei_in (c : Kx bb X G W (k + 1)) (ha : PE X a (tI G W fa)) (hb : PE X b (tK G W fb)) (hm : behindInMarks .In b = false := by rfl) : PE X (.Compare a [.In] [b] pos) (tI G W (M.map (bin2 inD fa fb) D.bl)) := ei_cmp c ((op_inD c.u65).or ((op_inT c.u65).or (op_inDict c.u65))) inS_of ha hb hm
theorem et_in (c : Kx bb X G W (k + 1)) (ha : PE X a (tI G W fa)) (hb : PE X b (tK G W fb)) (hm : behindInMarks .In b = false := by rfl) : PT X (.Compare a [.In] [b] pos) (tT G W (bin2 inD fa fb)) := et_cmp c ((op_inD c.u65).or ((op_inT c.u65).or (op_inDict c.u65))) inS_of ha hb hm
theorem ei_ni (c : Kx bb X G W (k + 1)) (ha : PE X a (tI G W fa)) (hb : PE X b (tK G W fb)) (hm : behindInMarks .NotIn b = false := by rfl) : PE X (.Compare a [.NotIn] [b] pos) (tI G W (M.map (bin2 niD fa fb) D.bl)) := ei_cmp c ((op_notInD c.u65).or ((op_niT c.u65).or (op_niDict c.u65))) niS_of ha hb hm
theorem et_ni (c : Kx bb X G W (k + 1)) (ha : PE X a (tI G W fa)) (hb : PE X b (tK G W fb)) (hm : behindInMarks .NotIn b = false := by rfl) : PT X (.Compare a [.NotIn] [b] pos) (tT G W (bin2 niD fa fb)) := et_cmp c ((op_notInD c.u65).or ((op_niT c.u65).or (op_niDict c.u65))) niS_of ha hb hm
/-- the left one as it stands, the right one a new empty list -/
def nilEq (f : M D) : M Bool := M.bind f fun a => M.lift (eqD a (.lst []))
def nilNe (f : M D) : M Bool := M.bind f fun a => M.lift (neD a (.lst []))
theorem tNil_of {r : R2} {g : D → D → Option Bool} {σ : L2.St} {H : Hp} {Q : Bool → Hp → Prop} {Q' : VK} (hr : OpS G.K r g) (hQ : ∀ b H', Q b H' → Q' (.bl b) H') :
    tT G W (M.bind fa fun a => M.lift (g a (.lst []))) σ H Q → tOp r (tK G W fa) (tLst tNil) σ H Q' := fun ⟨F, ρ, τ, R, q⟩ =>
  ⟨F, ρ, τ, R, (Fin.bind q).imp fun a ρ1 F1 H1 s1 R1 q1 v rv => by
    obtain ⟨d, e, z⟩ := Fin.lift q1
    refine ⟨Nat.zero_le _, fun p hp => ?_⟩
    exact hr H1 _ v _ a (.lst []) d _ (same_upd hp) rv (.lst upd_same .nil) e (hQ d _ (z _ _ (Same.refl _) (R1.ext (Ext.loose _ R1.sub hp))))⟩
theorem et_eqNil (c : Kx bb X G W k) (ha : PE X a (tK G W fa)) : PT X (.Compare a [.Eq] [.List [] p] pos) (tT G W (nilEq fa)) := PT.imp (pt_cmpR (op_eqD c.u64) ha (pe_lst pa_nil) (nomark _)) fun σ H Q q => tNil_of (Q' := fun x H' => ∃ k, x = .bl k ∧ Q k H') (by rw [c.hK]; exact eqD_of) (fun b H' z => ⟨b, rfl, z⟩) q
theorem et_neNil (c : Kx bb X G W k) (ha : PE X a (tK G W fa)) : PT X (.Compare a [.NotEq] [.List [] p] pos) (tT G W (nilNe fa)) := PT.imp (pt_cmpR (op_neD c.u64) ha (pe_lst pa_nil) (nomark _)) fun σ H Q q => tNil_of (Q' := fun x H' => ∃ k, x = .bl k ∧ Q k H') (by rw [c.hK]; exact neD_of) (fun b H' z => ⟨b, rfl, z⟩) q
theorem ei_eqNil (c : Kx bb X G W k) (ha : PE X a (tK G W fa)) : PE X (.Compare a [.Eq] [.List [] p] pos) (tI G W (M.map (nilEq fa) D.bl)) := PE.imp (pe_cmpR (op_eqD c.u64) ha (pe_lst pa_nil) (nomark _)) fun σ H Q q => tNil_of (by rw [c.hK]; exact eqD_of) (fun b H' z => z) (tT_b q)
theorem ei_neNil (c : Kx bb X G W k) (ha : PE X a (tK G W fa)) : PE X (.Compare a [.NotEq] [.List [] p] pos) (tI G W (M.map (nilNe fa) D.bl)) := PE.imp (pe_cmpR (op_neD c.u64) ha (pe_lst pa_nil) (nomark _)) fun σ H Q q => tNil_of (by rw [c.hK]; exact neD_of) (fun b H' z => z) (tT_b q)
/-- low <= value <= high -/
def chainD (fa fb fc : M D) (g g' : D → D → Option Bool) : M D := M.bind fa fun a => M.bind fb fun b => M.bind (M.lift (g a b)) fun k => if k then M.bind fc fun c => M.map (M.lift (g' b c)) D.bl else M.pure (.bl false)
theorem ei_chain {op op' : CmpOp} {r r' : R2} {g g' : D → D → Option Bool} (cx : Kx bb X G W k) (ho : OpR X (compareOp op) r) (ho' : OpR X (compareOp op') r') (hr : OpS X.K r g) (hr' : OpS X.K r' g') (ha : PE X a (tI G W fa)) (hb : PE X b (tI G W fb)) (hc : PE X c (tI G W fc))
    (hm : lastMarks [op, op'] [b, c] = false := by with_unfolding_all rfl) : PE X (.Compare a [op, op'] [b, c] pos) (tI G W (chainD fa fb fc g g')) := PE.imp (pe_chain ho ho' ha hb hc hm) fun σ H Q ⟨F, ρ, τ, R, q⟩ => by
  rw [← cx.hK] at hr hr'
  refine ⟨F, ρ, τ, R, (Fin.bind q).imp fun a ρ1 F1 H1 s1 R1 q1 v rv => ⟨F1, ρ1, τ, R1, (Fin.bind q1).imp fun b ρ2 F2 H2 s2 R2 q2 w rw => ?_⟩⟩
  have q3 := Fin.bind q2
  obtain ⟨kk, e, z⟩ := Fin.lift q3
  have q4 := z F2 H2 (Same.refl _) R2
  refine hr F2 H2 v w a b kk _ R2.sub (rv.mono s2) (rw.mono R2.sub) e ⟨kk, rfl, ?_⟩
  cases kk with
  | false => exact iteF (Fin.pure q4 F2 H2 (Same.refl _) R2 _ (.bl false))
  | true =>
    refine iteT ⟨F2, ρ2, τ, R2, (Fin.bind q4).imp fun c ρ3 F3 H3 s3 R3 q5 u ru => ?_⟩
    obtain ⟨k2, e2, z2⟩ := Fin.lift (Fin.bind q5)
    exact hr' F3 H3 w u b c k2 _ R3.sub (rw.mono s3) (ru.mono R3.sub) e2 (Fin.pure (z2 F3 H3 (Same.refl _) R3) F3 H3 (Same.refl _) R3 _ (.bl k2))
theorem ei_chainLe (cx : Kx bb X G W k) (ha : PE X a (tI G W fa)) (hb : PE X b (tI G W fb)) (hc : PE X c (tI G W fc)) (hm : lastMarks [.LtE, .LtE] [b, c] = false := by with_unfolding_all rfl) : PE X (.Compare a [.LtE, .LtE] [b, c] pos) (tI G W (chainD fa fb fc leD leD)) :=
  ei_chain cx op_le op_le gB_of gB_of ha hb hc hm

/-! ### and, or, not, a if t else b; truth -/
variable {f g : M Bool} {rest : List Expr}
def andM (f g : M Bool) : M Bool := M.bind f fun k => if k then g else M.pure false
def orM (f g : M Bool) : M Bool := M.bind f fun k => if k then M.pure true else g
def notM (f : M Bool) : M Bool := M.map f (!·)
theorem ew_and1 (ha : PT X a (tT G W f)) : PW X (.BoolOp .And [a] pos) (tT G W f) := pw_and1 ha
theorem ew_or1 (ha : PT X a (tT G W f)) : PW X (.BoolOp .Or [a] pos) (tT G W f) := pw_or1 ha
theorem ew_and (ha : PT X a (tT G W f)) (hb : PW X (.BoolOp .And (b :: rest) pos) (tT G W g)) : PW X (.BoolOp .And (a :: b :: rest) pos) (tT G W (andM f g)) := PW.imp (pw_and ha hb) fun σ H Q ⟨F, ρ, τ, R, q⟩ => ⟨F, ρ, τ, R, (Fin.bind q).imp fun k ρ1 F1 H1 s1 R1 q1 => by
  cases k with
  | true => exact iteT ⟨F1, ρ1, τ, R1, q1⟩
  | false => exact iteF (Fin.pure q1 F1 H1 (Same.refl _) R1)⟩
theorem ew_or (ha : PT X a (tT G W f)) (hb : PW X (.BoolOp .Or (b :: rest) pos) (tT G W g)) : PW X (.BoolOp .Or (a :: b :: rest) pos) (tT G W (orM f g)) := PW.imp (pw_or ha hb) fun σ H Q ⟨F, ρ, τ, R, q⟩ => ⟨F, ρ, τ, R, (Fin.bind q).imp fun k ρ1 F1 H1 s1 R1 q1 => by
  cases k with
  | true => exact iteT (Fin.pure q1 F1 H1 (Same.refl _) R1)
  | false => exact iteF ⟨F1, ρ1, τ, R1, q1⟩⟩
theorem et_not (ha : PT X a (tT G W f)) : PT X (.UnaryOp .Not a pos) (tT G W (notM f)) := PT.imp (pt_not ha) fun σ H Q ⟨F, ρ, τ, R, q⟩ => ⟨F, ρ, τ, R, (Fin.bind q).imp fun k ρ1 F1 H1 s1 R1 q1 => Fin.pure q1 F1 H1 (Same.refl _) R1⟩
/-- as values: all but the last True or False -/
def D.b? : D → Option Bool
  | .bl b => some b
  | _ => none
def andD (f g : M D) : M D := M.bind f fun d => M.bind (M.lift d.b?) fun k => if k then g else M.pure (.bl false)
def orD (f g : M D) : M D := M.bind f fun d => M.bind (M.lift d.b?) fun k => if k then M.pure (.bl true) else g
def notD (f : M D) : M D := M.bind f fun d => M.bind (M.lift d.b?) fun k => M.pure (.bl !k)
theorem Rp.tf {K : PySem.W.Frag} {F : Hp} {v : V} {d : D} {k : Bool} (r : Rp K F v d) (h : d.b? = some k) : v = .bl k := by
  cases r <;> simp [D.b?] at h
  rw [h]
theorem ei_one {op : BoolOp} (ha : PE X a (tI G W fa)) : PE X (.BoolOp op [a] pos) (tI G W fa) := pe_one ha
theorem ei_and (ha : PE X a (tI G W fa)) (hb : PE X (.BoolOp .And (b :: rest) pos) (tI G W fb)) : PE X (.BoolOp .And (a :: b :: rest) pos) (tI G W (andD fa fb)) := PE.imp (pe_and ha hb) fun σ H Q ⟨F, ρ, τ, R, q⟩ => ⟨F, ρ, τ, R, (Fin.bind q).imp fun d ρ1 F1 H1 s1 R1 q1 v rv => by
  obtain ⟨k, e, z⟩ := Fin.lift (Fin.bind q1)
  have q2 := z F1 H1 (Same.refl _) R1
  refine ⟨k, rv.tf e, ?_⟩
  cases k with
  | true => exact iteT ⟨F1, ρ1, τ, R1, q2⟩
  | false => exact iteF (Fin.pure q2 F1 H1 (Same.refl _) R1 _ (.bl false))⟩
theorem ei_or (ha : PE X a (tI G W fa)) (hb : PE X (.BoolOp .Or (b :: rest) pos) (tI G W fb)) : PE X (.BoolOp .Or (a :: b :: rest) pos) (tI G W (orD fa fb)) := PE.imp (pe_or ha hb) fun σ H Q ⟨F, ρ, τ, R, q⟩ => ⟨F, ρ, τ, R, (Fin.bind q).imp fun d ρ1 F1 H1 s1 R1 q1 v rv => by
  obtain ⟨k, e, z⟩ := Fin.lift (Fin.bind q1)
  have q2 := z F1 H1 (Same.refl _) R1
  refine ⟨k, rv.tf e, ?_⟩
  cases k with
  | true => exact iteT (Fin.pure q2 F1 H1 (Same.refl _) R1 _ (.bl true))
  | false => exact iteF ⟨F1, ρ1, τ, R1, q2⟩⟩
theorem ei_not (ha : PE X a (tI G W fa)) : PE X (.UnaryOp .Not a pos) (tI G W (notD fa)) := PE.imp (pe_not ha) fun σ H Q ⟨F, ρ, τ, R, q⟩ => ⟨F, ρ, τ, R, (Fin.bind q).imp fun d ρ1 F1 H1 s1 R1 q1 v rv => by
  obtain ⟨k, e, z⟩ := Fin.lift (Fin.bind q1)
  exact ⟨k, rv.tf e, Fin.pure (z F1 H1 (Same.refl _) R1) F1 H1 (Same.refl _) R1 _ (.bl _)⟩⟩
def iteM {α : Type} (t : M Bool) (f g : M α) : M α := M.bind t fun k => if k then f else g
theorem ei_if (hc : PT X c (tT G W f)) (ha : PE X a (tI G W fa)) (hb : PE X b (tI G W fb)) : PE X (.IfExp c a b pos) (tI G W (iteM f fa fb)) := PE.imp (pe_ifExp hc ha hb) fun σ H Q ⟨F, ρ, τ, R, q⟩ => ⟨F, ρ, τ, R, (Fin.bind q).imp fun k ρ1 F1 H1 s1 R1 q1 => by
  cases k with
  | true => exact iteT ⟨F1, ρ1, τ, R1, q1⟩
  | false => exact iteF ⟨F1, ρ1, τ, R1, q1⟩⟩
theorem en_if {ga gb : M Co} (hc : PT X c (tT G W f)) (ha : PE X a (tN G W ga)) (hb : PE X b (tN G W gb)) : PE X (.IfExp c a b pos) (tN G W (iteM f ga gb)) := PE.imp (pe_ifExp hc ha hb) fun σ H Q ⟨F, ρ, τ, R, q⟩ => ⟨F, ρ, τ, R, (Fin.bind q).imp fun k ρ1 F1 H1 s1 R1 q1 => by
  cases k with
  | true => exact iteT ⟨F1, ρ1, τ, R1, q1⟩
  | false => exact iteF ⟨F1, ρ1, τ, R1, q1⟩⟩
/-- an expression that is True or False, as a test -/
def testB (f : M D) : M Bool := M.bind f fun d => M.lift d.b?
theorem et_val (h : PE X e (tI G W fa)) (he : ∀ whole, isTrue e X.env whole = (do let v ← whole; standAt e.pos; holding [v] (truthy v)) := by intro _; rfl) : PT X e (tT G W (testB fa)) := PT.imp (pt_val h he) fun σ H Q ⟨F, ρ, τ, R, q⟩ => ⟨F, ρ, τ, R, (Fin.bind q).imp fun d ρ1 F1 H1 s1 R1 q1 v rv => by
  obtain ⟨k, e, z⟩ := Fin.lift q1
  exact ⟨k, rv.tf e, z F1 H1 (Same.refl _) R1⟩⟩
/-- any value as a test, as it stands -/
def truD : D → Option Bool
  | .non => some false
  | .bl b => some b
  | .int i => some (i != 0)
  | .str x => if x.length ≤ 100000 then some ((x.length : Int) != 0) else none
  | .tup l => some !l.isEmpty
  | .lst l => some !l.isEmpty
  | .scr l => some !l.isEmpty
  | .dic false ks _ => some !ks.isEmpty
  | .dic true _ _ => none
theorem RpA.isEmpty {K : PySem.W.Frag} {F : Hp} {vs : List V} {ds : List D} (h : RpA K F vs ds) : vs.isEmpty = ds.isEmpty := by cases h <;> rfl
theorem tru_of {K : PySem.W.Frag} {H : Hp} {v : V} {d : D} {k : Bool} (r : Rp K H v d) (e : truD d = some k) : TruV K v H k := by
  cases r with
  | non => exact (Option.some.inj e).symm
  | bl b => exact (Option.some.inj e).symm
  | int i => exact (Option.some.inj e).symm
  | str x =>
    have e' : (if x.length ≤ 100000 then some ((x.length : Int) != 0) else none) = some k := e
    split at e'
    · rename_i h
      exact ⟨line5 h, (Option.some.inj e').symm⟩
    · cases e'
  | tup h q => exact .inr (.inl ⟨_, .of h, by rw [q.isEmpty]; exact (Option.some.inj e).symm⟩)
  | lst h q => exact .inl ⟨_, .of h, by rw [q.isEmpty]; exact (Option.some.inj e).symm⟩
  | dcT h q => cases e
  | dcK h q => exact .inr (.inr ⟨_, h, by rw [← Option.some.inj e]; cases ‹List (Key × V)› <;> rfl⟩)
  | scr h => exact .inl ⟨_, h, by rw [← Option.some.inj e]; cases ‹List Int› <;> rfl⟩
def testT (f : M D) : M Bool := M.bind f fun d => M.lift (truD d)
theorem et_tru (c : Kx bb X G W k) (h : PE X e (tK G W fa)) (he : ∀ whole, isTrue e X.env whole = (do let v ← whole; standAt e.pos; holding [v] (truthy v)) := by intro _; rfl) : PT X e (tT G W (testT fa)) := PT.imp (pt_truth h he) fun σ H Q ⟨F, ρ, τ, R, q⟩ => ⟨F, ρ, τ, R, (Fin.bind q).imp fun d ρ1 F1 H1 s1 R1 q1 v rv => by
  obtain ⟨k, e, z⟩ := Fin.lift q1
  exact ⟨k, by rw [← c.hK]; exact tru_of rv e, z F1 H1 (Same.refl _) R1⟩⟩

/-! ### subscripts -/
def rIxD : R2 := fun x y H Q => ∃ a v, x = .ref a ∧ DGet H a y (some v) ∧ Q v H
theorem ix_dict (hu : X.A.units + 64 < cLine) : IxR X rIxD := fun value slice pins s σ H x y v u Q I rx ry ⟨a, z, ex, g, q⟩ hs => by
  subst ex
  cases rx
  have ty := dict_typeIs I g
  unfold subscriptTail
  refine wpAny_bind ?_
  rw [getitemInPython_of_ne ty.not_modules]
  refine wpAny_bind (wpAny_specialOf ty PySem.F.slot_dict_getitem.lookup ?_)
  have last : wpAny (model X.prog X.w) X.A (subscripted slice false (.ref a) u) (fun r s₃ => wpAny (model X.prog X.w) X.A (letTemporaryGo value (.ref a) r >>= fun _ => pure r) (EP X pins σ Q) X.xe s₃) X.xe s := by
    rw [hs]
    exact wpAny_operating (thn (d_getItem (by omega) I g ry fun w' s' I' r' => (show EP X pins σ Q w' s' from ⟨z, H, I', r', q⟩)) fun r s' h => wpAny_bind (wpAny_letTemporaryGo (wpAny_pure h)))
  first
    | exact wpAny_pure (wpAny_bind last)
    | exact wpAny_bind (wpAny_pure (wpAny_bind last))
    | exact wpAny_bind last
def ixD (a b : D) : Option D := match a, b with
  | .tup l, .int i => atI l i
  | .lst l, .int i => atI l i
  | .scr l, .int i => (atI l i).map D.int
  | .str x, .int i => if x.length ≤ 100000 then (atI x.cps.toList i).map fun c => .str ⟨#[c]⟩ else none
  | a, b => match dget a b with
    | some (some d) => some d
    | _ => none
theorem RpA.at {K : PySem.W.Frag} {F : Hp} {vs : List V} {ds : List D} {i : Int} {d : D} (h : RpA K F vs ds) (e : atI ds i = some d) : ∃ v, atI vs i = some v ∧ Rp K F v d := by
  unfold atI at e ⊢
  rw [h.length]
  cases q : ixN ds.length i with
  | none => rw [q] at e; cases e
  | some j =>
    rw [q] at e
    obtain ⟨v, h1, h2⟩ := h.get e
    exact ⟨v, h1, h2⟩
theorem ints_at {K : PySem.W.Frag} {F : Hp} {ns : List Int} {i n : Int} (e : atI ns i = some n) : atI (ns.map V.int) i = some (.int n) := by
  unfold atI at e ⊢
  rw [List.length_map]
  cases q : ixN ns.length i with
  | none => rw [q] at e; cases e
  | some j =>
    rw [q] at e
    show (ns.map V.int)[j]? = _
    have e' : ns[j]? = some n := e
    rw [List.getElem?_map, e']
    rfl
def rIxA (K : PySem.W.Frag) : R2 := fun x y H Q => rIx K x y H Q ∨ rIxD x y H Q
/-- on what stands there now: the answer is settled where the sequence is -/
theorem ixD_of {K : PySem.W.Frag} {F H : Hp} {x y : V} {a b d : D} {Q : VK} (s : Same F H) (rx : Rp K F x a) (ry : Rp K F y b) (e : ixD a b = some d) (q : ∀ v, Rp K F v d → Q v H) : rIxA K x y H Q := by
  unfold ixD at e
  split at e
  · cases rx with
    | tup h r =>
      cases ry
      obtain ⟨v, h1, h2⟩ := r.at e
      exact .inl (.inr (.inl ⟨_, _, _, v, rfl, rfl, .of (s _ _ h), h1, q v h2⟩))
  · cases rx with
    | lst h r =>
      cases ry
      obtain ⟨v, h1, h2⟩ := r.at e
      exact .inl (.inl ⟨_, _, _, v, rfl, rfl, .of (s _ _ h), h1, q v h2⟩)
  · cases rx with
    | scr h =>
      cases ry
      obtain ⟨n, h1, h2⟩ := Option.map_eq_some_iff.mp e
      subst h2
      exact .inl (.inl ⟨_, _, _, _, rfl, rfl, s.seq h, ints_at (K := K) (F := F) h1, q _ (.int n)⟩)
  · split at e
    · rename_i hl
      obtain ⟨n, h1, h2⟩ := Option.map_eq_some_iff.mp e
      subst h2
      cases rx
      cases ry
      exact .inl (.inr (.inr ⟨_, _, n, rfl, rfl, line5 hl, h1, q _ (.str _)⟩))
    · cases e
  · split at e
    · rename_i d' h1
      have e := Option.some.inj e
      subst e
      obtain ⟨p, ov, e1, g, _, z2⟩ := dget_of rx ry h1
      obtain ⟨v, ev, rv⟩ := z2 _ rfl
      subst ev
      refine .inr ⟨p, v, e1, ?_, q v rv⟩
      rcases g with ⟨kvs, k, r, z⟩ | ⟨kvs, k, b, r, z1, z2, z3⟩
      · refine .inl ⟨kvs, k, ?_, z⟩
        rcases r with r | ⟨o, r⟩
        · exact .inl (s _ _ r)
        · exact .inr ⟨o, s _ _ r⟩
      · refine .inr ⟨kvs, k, b, ?_, z1, s _ _ z2, z3⟩
        rcases r with r | ⟨o, r⟩
        · exact .inl (s _ _ r)
        · exact .inr ⟨o, s _ _ r⟩
    · cases e
theorem ixA {X : Cx} (hu : X.A.units + 64 < cLine) : IxR X (rIxA X.K) := ix_seq.or (ix_dict hu)
theorem ei_ix (c : Kx bb X G W k) (ha : PE X a (tI G W fa)) (hb : PE X b (tI G W fb)) (hs : PlainIx b := by intro _ _; rfl) : PE X (.Subscript a b pos) (tI G W (bin2 ixD fa fb)) := PE.imp (pe_ix (ixA c.u64) ha hb hs) fun σ H Q ⟨F, ρ, τ, R, q⟩ => ⟨F, ρ, τ, R, (Fin.bind q).imp fun x ρ1 F1 H1 s1 R1 q1 v rv => ⟨F1, ρ1, τ, R1, (Fin.bind q1).imp fun y ρ2 F2 H2 s2 R2 q2 w rw => by
  obtain ⟨d, e, z⟩ := Fin.lift q2
  rw [← c.hK]
  exact ixD_of R2.sub (rv.mono s2) rw e fun u ru => z F2 H2 (Same.refl _) R2 u ru⟩⟩
/-- of a name, which is only looked at: what stands there behind the index -/
def ixHere (i : Nat) (b : D) : M D := fun ρ => match ρ[i]? with
  | some (.val a) => (ixD a b).map fun d => .ok d ρ
  | some (.own _ c) => (ixD c.d b).map fun d => .ok d ρ
  | _ => none
def ixAt (i : Nat) (fb : M D) : M D := M.bind (pk i) fun _ => M.bind fb (ixHere i)
/-- the items of an owned object are settled -/
theorem co_ix {F H : Hp} {o : HO} {c : Co} {p : Addr} {y : V} {b d : D} {K : PySem.W.Frag} {Q : VK} (s : Same F H) (hp : H p = some o) (hc : CoR K F o c) (ry : Rp K F y b) (e : ixD c.d b = some d) (q : ∀ v, Rp K F v d → Q v H) : rIxA K (.ref p) y H Q := by
  cases c with
  | lst ds =>
    obtain ⟨vs, rfl, r⟩ := hc
    unfold Co.d ixD at e
    split at e
    · rename_i h1; cases h1
    · rename_i h1
      cases h1
      cases ry
      obtain ⟨v, h1, h2⟩ := r.at e
      exact .inl (.inl ⟨_, _, _, v, rfl, rfl, .of hp, h1, q v h2⟩)
    · rename_i h1; cases h1
    · rename_i h1; cases h1
    · rename_i h1; simp only [dget] at e; cases e
  | dT es =>
    obtain ⟨kvs, rfl, hk, r⟩ := hc
    unfold Co.d ixD at e
    simp only at e
    split at e
    · rename_i d' h1
      have e := Option.some.inj e
      subst e
      simp only [dget, Option.map_eq_some_iff] at h1
      obtain ⟨k, h1, h2⟩ := h1
      have e1 : (es.map fun e => kTD e.1) = kvs.map fun q => kTD q.1 := by
        have := congrArg (List.map kTD) hk
        rw [List.map_map, List.map_map] at this
        exact this.symm
      rw [e1] at h2
      obtain ⟨_, z2⟩ := look_T k r _ h2
      obtain ⟨v, ev, rv⟩ := z2 _ rfl
      obtain ⟨b', rfl, hb⟩ := ry.keyT h1
      exact .inr ⟨p, v, rfl, by rw [← ev]; exact .t hp (s _ _ hb), q v rv⟩
    · cases e
  | dK es =>
    obtain ⟨kvs, rfl, hk, r⟩ := hc
    unfold Co.d ixD at e
    simp only at e
    split at e
    · rename_i d' h1
      have e := Option.some.inj e
      subst e
      simp only [dget, Option.map_eq_some_iff] at h1
      obtain ⟨k, h1, h2⟩ := h1
      have e1 : (es.map fun e => kD e.1) = kvs.map fun q => kD q.1 := by
        have := congrArg (List.map kD) hk
        rw [List.map_map, List.map_map] at this
        exact this.symm
      rw [e1] at h2
      obtain ⟨_, z2⟩ := look_K k r _ h2
      obtain ⟨v, ev, rv⟩ := z2 _ rfl
      have ey := ry.keyK h1
      subst ey
      exact .inr ⟨p, v, rfl, by rw [← ev]; exact .k hp, q v rv⟩
    · cases e
theorem ei_ixAt {i : Nat} {x : Str} (c : Kx bb X G W k) (hb : PE X b (tI G W fb)) (hN : X.N[i]? = some x := by rfl) (hs : PlainIx b := by intro _ _; rfl) (hv : Vis X.env.scope x := by first | exact Or.inl rfl | exact Or.inr (Or.inl rfl) | exact Or.inr (Or.inr rfl)) (hd : (x == ("__debug__" : Str)) = false := by decide)
    (hcd : (x == ("__classdict__" : Str)) = false := by decide) : PE X (.Subscript (.Name x p) b pos) (tI G W (ixAt i fb)) := PE.imp (pe_ix (ixA c.u64) (pe_var hN hv hd hcd) hb hs) fun σ H Q ⟨F, ρ, τ, R, q⟩ => by
  obtain ⟨v, h1, R0, q0⟩ : ∃ v, σ[i]? = some (some v) ∧ Rep G F H ρ σ τ ∧ Fin G W F σ τ (fun d _ F' H' => ∀ v, Rp G.K F' v d → Q v H') (M.bind fb (ixHere i) ρ) := by
    have q1 := Fin.bind q
    unfold Dn.pk at q1
    split at q1
    · rename_i s e
      cases z : s.d? with
      | none => rw [z] at q1; exact q1.elim
      | some d =>
        rw [z] at q1
        obtain ⟨v, h1, _⟩ := R.pk e z
        exact ⟨v, h1, R, q1 F H (Same.refl F) R⟩
    · exact q1.elim
  refine ⟨v, h1, F, ρ, τ, R0, (Fin.bind q0).imp fun y ρ2 F2 H2 s2 R2 q2 w rw => ?_⟩
  unfold ixHere at q2
  rw [← c.hK]
  split at q2
  · rename_i a e
    obtain ⟨v2, h2, r2⟩ := R2.val e
    rw [h1] at h2
    have e2 : v = v2 := Option.some.inj (Option.some.inj h2)
    subst e2
    cases z : ixD a y with
    | none => rw [z] at q2; exact q2.elim
    | some d =>
      rw [z] at q2
      exact ixD_of R2.sub r2 rw z fun u ru => q2 F2 H2 (Same.refl _) R2 u ru
  · rename_i bb cc e
    obtain ⟨a, o, h2, h3, h4, _⟩ := R2.own e
    rw [h1] at h2
    have e2 : v = .ref a := Option.some.inj (Option.some.inj h2)
    subst e2
    cases z : ixD cc.d y with
    | none => rw [z] at q2; exact q2.elim
    | some d =>
      rw [z] at q2
      exact co_ix R2.sub h3 h4 rw z fun u ru => q2 F2 H2 (Same.refl _) R2 u ru
  · exact q2.elim
end
end Dn

/-! Arguments, displays, slices, calls of built-ins -/
namespace Dn
open PySem PySem.Spec PyProof.Rows L2
section
variable {bb : Bool} {X : Cx} {G : Gx} {W : WX} {k : Nat} {pos p p2 : Pos} {a b c e : Expr} {es : List Expr} {fa fb fc f : M D} {fs : M (List D)}

/-! ### arguments -/
def consM (f : M D) (fs : M (List D)) : M (List D) := M.bind f fun d => M.bind fs fun ds => M.pure (d :: ds)
def oneM (f : M D) : M (List D) := M.map f fun d => [d]
theorem ea_nil : PA X [] (tA G W (M.pure [])) := PA.imp pa_nil fun σ H Q ⟨F, ρ, τ, R, q⟩ => q F H (Same.refl F) R [] .nil
theorem ea_cons (ha : PE X e (tI G W f)) (hr : PA X es (tA G W fs)) (hs : starEach (e :: es) X.env = (false, eval e X.env) :: starEach es X.env := by rfl) : PA X (e :: es) (tA G W (consM f fs)) := PA.imp (pa_cons ha hr hs) fun σ H Q ⟨F, ρ, τ, R, q⟩ =>
  ⟨F, ρ, τ, R, (Fin.bind q).imp fun d ρ1 F1 H1 s1 R1 q1 v rv => ⟨F1, ρ1, τ, R1, (Fin.bind q1).imp fun ds ρ2 F2 H2 s2 R2 q2 vs rvs => Fin.pure q2 F2 H2 (Same.refl _) R2 _ (.cons (rv.mono s2) rvs)⟩⟩
/-- as they stand now -/
def tAK (G : Gx) (W : WX) (f : M (List D)) : TA := fun σ H Q => ∃ F ρ τ, Rep G F H ρ σ τ ∧ Fin G W F σ τ (fun ds _ _ H' => ∀ vs, RpA G.K H' vs ds → Q vs H') (f ρ)
theorem ea_now (h : PA X es (tA G W fs)) : PA X es (tAK G W fs) := PA.imp h fun σ H Q ⟨F, ρ, τ, R, q⟩ => ⟨F, ρ, τ, R, q.imp fun _ _ _ _ _ R' z vs r => z vs (r.mono R'.sub)⟩
theorem ea_one (h : PE X e (tK G W f)) (hs : starEach [e] X.env = (false, eval e X.env) :: starEach [] X.env := by rfl) : PA X [e] (tAK G W (oneM f)) := PA.imp (pa_cons h pa_nil hs) fun σ H Q ⟨F, ρ, τ, R, q⟩ =>
  ⟨F, ρ, τ, R, (Fin.bind q).imp fun d ρ1 F1 H1 s1 R1 q1 v rv => Fin.pure q1 F1 H1 (Same.refl _) R1 _ (.one rv)⟩

/-! ### displays -/
def lenOk {α : Type} (l : List α) : Bool := decide (l.length ≤ 100000)
def tupM (fs : M (List D)) : M D := M.bind fs fun ds => M.lift (if lenOk ds then some (.tup ds) else none)
def lstM (fs : M (List D)) : M Co := M.bind fs fun ds => M.lift (if lenOk ds then some (.lst ds) else none)
theorem lenOk_le {α : Type} {l : List α} (h : lenOk l = true) : l.length ≤ sizeLine := line5 (of_decide_eq_true h)
theorem ei_tup {x1 : Nat} (h : PA X es (tA G W fs)) : PE X (.Tuple es x1 pos) (tI G W (tupM fs)) := PE.imp (pe_tup h) fun σ H Q ⟨F, ρ, τ, R, q⟩ => ⟨F, ρ, τ, R, (Fin.bind q).imp fun ds ρ1 F1 H1 s1 R1 q1 vs rvs => by
  obtain ⟨d, e, z⟩ := Fin.lift q1
  split at e
  · rename_i hl
    cases e
    refine ⟨by rw [rvs.length]; exact lenOk_le hl, fun p hp => ?_⟩
    have ex := Ext.new (.tup vs) R1.sub hp
    exact z _ _ ex.f (R1.ext ex) _ (.tup upd_same (rvs.mono ex.f))
  · cases e⟩
theorem Rep.newly {F H : Hp} {ρ : Sto} {σ : L2.St} {τ : Tmp} (R : Rep G F H ρ σ τ) {p : Addr} {o : HO} {c : Co} (hp : H p = none) (hc : CoR G.K F o c) : Rep G F (upd H p o) ρ σ τ ∧ Fresh G F (upd H p o) ρ σ τ c p :=
  ⟨R.ext (Ext.loose o R.sub hp), o, upd_same, hc, R.sub.free hp, R.new_0 hp, R.free_new hp, R.new_tmp hp⟩
theorem en_lst (h : PA X es (tA G W fs)) : PE X (.List es pos) (tN G W (lstM fs)) := PE.imp (pe_lst h) fun σ H Q ⟨F, ρ, τ, R, q⟩ => ⟨F, ρ, τ, R, (Fin.bind q).imp fun ds ρ1 F1 H1 s1 R1 q1 vs rvs => by
  obtain ⟨d, e, z⟩ := Fin.lift q1
  split at e
  · rename_i hl
    cases e
    refine ⟨by rw [rvs.length]; exact lenOk_le hl, fun p hp => ?_⟩
    obtain ⟨R2, fr⟩ := R1.newly (c := .lst ds) hp ⟨vs, rfl, rvs⟩
    exact z F1 _ (Same.refl _) R2 p fr
  · cases e⟩
theorem en_dT : PE X (.Dict [] [] pos) (tN G W (M.pure (.dT []))) := PE.imp pe_dnewT fun σ H Q ⟨F, ρ, τ, R, q⟩ p hp => by
  obtain ⟨R2, fr⟩ := R.newly (o := .dT []) (c := .dT []) hp ⟨[], rfl, rfl, .nil⟩
  exact q F _ (Same.refl _) R2 p fr
theorem en_dK : PE X (.Dict [] [] pos) (tN G W (M.pure (.dK []))) := PE.imp pe_dnewK fun σ H Q ⟨F, ρ, τ, R, q⟩ p hp => by
  obtain ⟨R2, fr⟩ := R.newly (o := .dK []) (c := .dK []) hp ⟨[], rfl, rfl, .nil⟩
  exact q F _ (Same.refl _) R2 p fr
/-- one pair, its key a tuple -/
def tDisp1 (tk tv : TE) : TE := fun σ H Q => ∀ p, H p = none → tk σ (upd H p (.dT [])) fun x H1 => tv σ H1 fun y H2 => H2 p = some (.dT []) ∧ ∃ b ks, x = .ref b ∧ H2 b = some (.tup (ks.map kV)) ∧ Q (.ref p) (upd H2 p (.dT [(ks, y)]))
theorem pe_disp1 {kx vx : Expr} {tk tv : TE} (hu : X.A.units + 64 < cLine) (hk : PE X kx tk) (hv : PE X vx tv) (hshape : (evalEachOpt [some kx] X.env).zip ((evalEach [vx] X.env).map fun v => do let x ← v; standAt pos; pure x) = [(some (eval kx X.env), do let x ← eval vx X.env; standAt pos; pure x)] := by rfl) :
    PE X (.Dict [some kx] [vx] pos) (tDisp1 tk tv) := by
  refine ⟨fun pins s σ H Q I q => ?_⟩
  have hn := I.hok.fresh (Nat.le_refl s.heap.objs.size)
  have I1 := I.laid (a := s.heap.objs.size) (o := .dT []) (h' := s.heap.push { cls := .type "dict", data := .dict #[] }) (t' := s.toks) (fun _ _ z => Heap.get?_push_of_some _ z) (Nat.le_refl _) (dt_empty s.heap I.big)
  rw [arm_eval_Dict, hshape]
  have e0 := dictDisplay_pairs [(eval kx X.env, (do let x ← eval vx X.env; standAt pos; pure x : Sem Value))] (by simp) (by simp)
  rw [show dictDisplay [(some (eval kx X.env), (do let x ← eval vx X.env; standAt pos; pure x : Sem Value))] = _ from e0]
  refine wpAny_bind (wpAny_standAt (wpAny_bind ?_))
  refine wpAny_subDictH (knd := tupleKind (mixKind X.prog X.w)) (Q := fun d s' => wpAny (model X.prog X.w) X.A (pure (Value.ref d)) (EP X pins σ Q) X.xe s') (show X.A.units < cLine by omega) (by simp) ?_
  refine evalPairs_cons (thn (hk.run pins _ σ _ _ I1 (q _ hn)) fun u s1 ⟨x, H1, I1', r1, q1⟩ => ?_)
  refine wpAny_bind (thn (hv.run pins s1 σ H1 _ I1' q1) fun u2 s2 ⟨y, H2, I2, r2, q2⟩ => wpAny_bind (wpAny_standAt (wpAny_pure (evalPairs_nil ?_))))
  obtain ⟨hp, b, ks, ex, hb, q3⟩ := q2
  subst ex
  cases r1
  obtain ⟨z, hd, xs, rel, dd⟩ := dt_of I2.hok hp
  cases rel
  refine ⟨[(ks, b, u2)], ⟨rfl, rfl, key_of I2.hok hb, trivial⟩, dd, fun h' tk dd' hs => wpAny_pure ⟨.ref s.heap.objs.size, _, ?_, rfl, q3⟩⟩
  obtain ⟨oo, es, ep, hq, g2, g3, g4, _, g5⟩ := dd'
  refine d_write I2 (by rw [hp]; exact True.intro) hs ⟨oo, hq⟩ ⟨?_, hd, [(ks, b, u2)], .cons ⟨rfl, ?_, r2⟩ .nil, oo, es, ep, hq, g2, g3, g4, ?_⟩
  · rw [sizeLine_eq]; simp
  · rw [upd_ne (ne_of hb hp (fun z => nomatch z))]
    exact hb
  · exact List.nodup_cons.mpr ⟨by simp, List.nodup_nil⟩
theorem en_disp1 {kx vx : Expr} {a d : D} {ks : List Key} (c : Kx bb X G W k) (hk : PE X kx (tI G W fa)) (hv : PE X vx (tI G W fb)) (ea : ∀ ρ, fa ρ = some (.ok a ρ)) (ed : ∀ ρ, fb ρ = some (.ok d ρ)) (ek : keyT a = some ks)
    (hshape : (evalEachOpt [some kx] X.env).zip ((evalEach [vx] X.env).map fun v => do let x ← v; standAt pos; pure x) = [(some (eval kx X.env), do let x ← eval vx X.env; standAt pos; pure x)] := by rfl) :
    PE X (.Dict [some kx] [vx] pos) (tN G W (M.pure (.dT [(ks, d)]))) := PE.imp (pe_disp1 c.u64 hk hv hshape) fun σ H Q ⟨F, ρ, τ, R, q⟩ p hp => by
  have R1 : Rep G F (upd H p (.dT [])) ρ σ ((p, .dT []) :: τ) := (R.ext (Ext.loose _ R.sub hp)).push upd_same (R.sub.free hp) (R.new_0 hp) (R.free_new hp) (R.new_tmp hp)
  refine ⟨F, ρ, _, R1, ?_⟩
  rw [ea]
  intro F1 H1 s1 R2 v rv
  refine ⟨F1, ρ, _, R2, ?_⟩
  rw [ed]
  intro F2 H2 s2 R3 w rw'
  obtain ⟨_, h1, _⟩ := R3.pop
  obtain ⟨b, ev, hb⟩ := (rv.mono s2).keyT ek
  refine ⟨h1, b, ks, ev, R3.sub _ _ hb, ?_⟩
  obtain ⟨R4, g1, g2, g3, g4, g5⟩ := (R3.wtmp (.dT [(ks, w)])).pop
  exact q F2 _ (s1.trans s2) R4 p ⟨_, g1, ⟨[(ks, w)], rfl, rfl, .one rw'⟩, g2, g3, g4, g5⟩

/-! ### slices -/
def tO (G : Gx) (W : WX) (f : M (Option Int)) : TO := fun σ H Q => ∃ F ρ τ, Rep G F H ρ σ τ ∧ Fin G W F σ τ (fun o _ _ H' => Q o H') (f ρ)
def optM (f : M D) : M (Option Int) := M.bind f fun d => M.lift (d.i?.map some)
theorem eo_none : PO X none (tO G W (M.pure none)) := ⟨fun pins s σ H Q I ⟨F, ρ, τ, R, q⟩ => po_none.run pins s σ H Q I (q F H (Same.refl F) R)⟩
theorem eo_some (h : PE X e (tI G W f)) : PO X (some e) (tO G W (optM f)) := ⟨fun pins s σ H Q I ⟨F, ρ, τ, R, q⟩ => (po_some h).run pins s σ H Q I ⟨F, ρ, τ, R, (Fin.bind q).imp fun d ρ1 F1 H1 s1 R1 q1 v rv => by
  obtain ⟨o, e, z⟩ := Fin.lift q1
  obtain ⟨i, e1, e2⟩ := Option.map_eq_some_iff.mp e
  subst e2
  cases rv <;> simp only [D.i?, reduceCtorEq] at e1
  cases e1
  exact ⟨_, rfl, z F1 H1 (Same.refl _) R1⟩⟩⟩
def cutL {α : Type} (xs : List α) (lo hi : Option Int) : List α := (xs.drop (HT.sIx xs.length 0 lo)).take (HT.sIx xs.length xs.length hi - HT.sIx xs.length 0 lo)
def cutD (a : D) (lo hi : Option Int) : Option D := match a with
  | .tup l => some (.tup (cutL l lo hi))
  | .lst l => some (.lst (cutL l lo hi))
  | _ => none
def sliceM (f : M D) (lo hi : M (Option Int)) : M D := M.bind f fun a => M.bind lo fun l => M.bind hi fun h => M.lift (cutD a l h)
theorem cutL_all {α : Type} {xs : List α} {lo hi : Option Int} (h1 : HT.sIx xs.length 0 lo = 0) (h2 : HT.sIx xs.length xs.length hi = xs.length) : cutL xs lo hi = xs := by
  unfold cutL
  rw [h1, h2, List.drop_zero, Nat.sub_zero, List.take_length]
theorem RpA.cut {K : PySem.W.Frag} {F : Hp} {vs : List V} {ds : List D} (h : RpA K F vs ds) (lo hi : Option Int) : RpA K F (cutV vs lo hi) (cutL ds lo hi) := by
  unfold cutV cutL
  rw [h.length]
  exact (h.drop _).take _
theorem ei_slice {lo hi : Option Expr} {fl fh : M (Option Int)} (c : Kx bb X G W k) (ha : PE X a (tI G W fa)) (hl : PO X lo (tO G W fl)) (hh : PO X hi (tO G W fh)) : PE X (.Subscript a (.Slice lo hi none p2) pos) (tI G W (sliceM fa fl fh)) :=
  PE.imp (pe_slice (sl_list.or sl_tupA) ha hl hh) fun σ H Q ⟨F, ρ, τ, R, q⟩ => ⟨F, ρ, τ, R, (Fin.bind q).imp fun a ρ1 F1 H1 s1 R1 q1 v rv => ⟨F1, ρ1, τ, R1, (Fin.bind q1).imp fun l ρ2 F2 H2 s2 R2 q2 => ⟨F2, ρ2, τ, R2, (Fin.bind q2).imp fun h ρ3 F3 H3 s3 R3 q3 => by
  obtain ⟨d, e, z⟩ := Fin.lift q3
  rw [← c.hK]
  have r3 := rv.mono (s2.trans s3)
  unfold cutD at e
  split at e
  · cases e
    cases r3 with
    | tup g r =>
      refine .inr ⟨_, _, rfl, .of (R3.sub _ _ g), fun ⟨w1, w2⟩ => ?_, fun _ p hp => ?_⟩
      · refine z F3 H3 (Same.refl _) R3 _ (.tup g ?_)
        rw [r.length] at w1 w2
        rw [cutL_all w1 w2]
        exact r
      · have ex := fun o => Ext.new o R3.sub hp
        exact z _ _ (ex _).f (R3.ext (ex _)) _ (.tup upd_same ((r.cut l h).mono (ex _).f))
  · cases e
    cases r3 with
    | lst g r =>
      refine .inl ⟨_, _, rfl, .of (R3.sub _ _ g), fun p hp => ?_⟩
      have ex := fun o => Ext.new o R3.sub hp
      exact z _ _ (ex _).f (R3.ext (ex _)) _ (.lst upd_same ((r.cut l h).mono (ex _).f))
  · cases e⟩⟩⟩

/-! ### calls of built-ins -/
def CallD (K : PySem.W.Frag) (r : List V → Hp → VK → Prop) (g : List D → Option D) : Prop := ∀ (F H : Hp) (vs : List V) (ds : List D) (d : D) (Q : VK), Same F H → RpA K F vs ds → g ds = some d → (∀ F' H' v, Ext F H F' H' → Rp K F' v d → Q v H') → r vs H Q
def CallS (K : PySem.W.Frag) (r : List V → Hp → VK → Prop) (g : List D → Option D) : Prop := ∀ (H : Hp) (vs : List V) (ds : List D) (d : D) (Q : VK), RpA K H vs ds → g ds = some d → (∀ v, (∀ F, Rp K F v d) → Q v H) → r vs H Q
def CallN (K : PySem.W.Frag) (r : List V → Hp → VK → Prop) (g : List D → Option Co) : Prop := ∀ (F H : Hp) (vs : List V) (ds : List D) (c : Co) (Q : VK), Same F H → RpA K F vs ds → g ds = some c → (∀ p o, H p = none → CoR K F o c → Q (.ref p) (upd H p o)) → r vs H Q
variable {r : List V → Hp → VK → Prop}
theorem tCB_D {g : List D → Option D} (hr : CallD G.K r g) : ∀ σ H Q, tI G W (M.bind fs fun ds => M.lift (g ds)) σ H Q → tCB r (tA G W fs) σ H Q := fun σ H Q ⟨F, ρ, τ, R, q⟩ => ⟨F, ρ, τ, R, (Fin.bind q).imp fun ds ρ1 F1 H1 s1 R1 q1 vs rvs => by
  obtain ⟨d, e, z⟩ := Fin.lift q1
  exact hr F1 H1 vs ds d Q R1.sub rvs e fun F' H' v ex rv => z F' H' ex.f (R1.ext ex) v rv⟩
theorem tCB_S {g : List D → Option D} (hr : CallS G.K r g) : ∀ σ H Q, tI G W (M.bind fs fun ds => M.lift (g ds)) σ H Q → tCB r (tAK G W fs) σ H Q := fun σ H Q ⟨F, ρ, τ, R, q⟩ => ⟨F, ρ, τ, R, (Fin.bind q).imp fun ds ρ1 F1 H1 s1 R1 q1 vs rvs => by
  obtain ⟨d, e, z⟩ := Fin.lift q1
  exact hr H1 vs ds d Q rvs e fun v rv => z F1 H1 (Same.refl _) R1 v (rv F1)⟩
theorem tCB_N {g : List D → Option Co} (hr : CallN G.K r g) : ∀ σ H Q, tN G W (M.bind fs fun ds => M.lift (g ds)) σ H Q → tCB r (tA G W fs) σ H Q := fun σ H Q ⟨F, ρ, τ, R, q⟩ => ⟨F, ρ, τ, R, (Fin.bind q).imp fun ds ρ1 F1 H1 s1 R1 q1 vs rvs => by
  obtain ⟨d, e, z⟩ := Fin.lift q1
  refine hr F1 H1 vs ds d Q R1.sub rvs e fun p o hp hc => ?_
  obtain ⟨R2, fr⟩ := R1.newly (c := d) hp hc
  exact z F1 _ (Same.refl _) R2 p fr⟩
variable {x : Str} {id T : String}
/-- a built-in function by its name, a built-in class, a module's name for a built-in function -/
theorem ei_callS {g : List D → Option D} (c : Kx bb X G W k) (hc : CallR X (.builtin id) r) (hr : CallS X.K r g) (hm : X.mg x = none) (hv : bootBuiltins x = some (.builtin id)) (ha : PA X (e :: es) (tAK G W fs)) (hg : Gl X x := by rfl) (hn : x ≠ "__name__" := by decide) (hdb : (x == ("__debug__" : Str)) = false := by decide)
    (he : starEach (e :: es) X.env = (false, eval e X.env) :: starEach es X.env := by rfl) (hpl : (backTo pos (starEach es X.env)).any (·.1) = false := by rfl) : PE X (.Call (.Name x p) (e :: es) [] pos) (tI G W (M.bind fs fun ds => M.lift (g ds))) :=
  PE.imp (pe_callB hc hg hm hv ha hn hdb he hpl) (tCB_S (by rw [c.hK]; exact hr))
theorem ei_callD {g : List D → Option D} (c : Kx bb X G W k) (hc : CallR X (.builtin id) r) (hr : CallD X.K r g) (hm : X.mg x = none) (hv : bootBuiltins x = some (.builtin id)) (ha : PA X (e :: es) (tA G W fs)) (hg : Gl X x := by rfl) (hn : x ≠ "__name__" := by decide) (hdb : (x == ("__debug__" : Str)) = false := by decide)
    (he : starEach (e :: es) X.env = (false, eval e X.env) :: starEach es X.env := by rfl) (hpl : (backTo pos (starEach es X.env)).any (·.1) = false := by rfl) : PE X (.Call (.Name x p) (e :: es) [] pos) (tI G W (M.bind fs fun ds => M.lift (g ds))) :=
  PE.imp (pe_callB hc hg hm hv ha hn hdb he hpl) (tCB_D (by rw [c.hK]; exact hr))
theorem en_callN {g : List D → Option Co} (c : Kx bb X G W k) (hc : CallR X (.builtin id) r) (hr : CallN X.K r g) (hm : X.mg x = none) (hv : bootBuiltins x = some (.builtin id)) (ha : PA X (e :: es) (tA G W fs)) (hg : Gl X x := by rfl) (hn : x ≠ "__name__" := by decide) (hdb : (x == ("__debug__" : Str)) = false := by decide)
    (he : starEach (e :: es) X.env = (false, eval e X.env) :: starEach es X.env := by rfl) (hpl : (backTo pos (starEach es X.env)).any (·.1) = false := by rfl) : PE X (.Call (.Name x p) (e :: es) [] pos) (tN G W (M.bind fs fun ds => M.lift (g ds))) :=
  PE.imp (pe_callB hc hg hm hv ha hn hdb he hpl) (tCB_N (by rw [c.hK]; exact hr))
theorem ei_callTS {g : List D → Option D} (c : Kx bb X G W k) (hc : CallR X (.type T) r) (hr : CallS X.K r g) (hm : X.mg x = none) (hv : bootBuiltins x = some (.type T)) (ha : PA X (e :: es) (tAK G W fs)) (hg : Gl X x := by rfl) (hn : x ≠ "__name__" := by decide) (hdb : (x == ("__debug__" : Str)) = false := by decide)
    (he : starEach (e :: es) X.env = (false, eval e X.env) :: starEach es X.env := by rfl) (hpl : (backTo pos (starEach es X.env)).any (·.1) = false := by rfl) : PE X (.Call (.Name x p) (e :: es) [] pos) (tI G W (M.bind fs fun ds => M.lift (g ds))) :=
  PE.imp (pe_callTy hc hg hm hv ha hn hdb he hpl) (tCB_S (by rw [c.hK]; exact hr))
theorem ei_callTD {g : List D → Option D} (c : Kx bb X G W k) (hc : CallR X (.type T) r) (hr : CallD X.K r g) (hm : X.mg x = none) (hv : bootBuiltins x = some (.type T)) (ha : PA X (e :: es) (tA G W fs)) (hg : Gl X x := by rfl) (hn : x ≠ "__name__" := by decide) (hdb : (x == ("__debug__" : Str)) = false := by decide)
    (he : starEach (e :: es) X.env = (false, eval e X.env) :: starEach es X.env := by rfl) (hpl : (backTo pos (starEach es X.env)).any (·.1) = false := by rfl) : PE X (.Call (.Name x p) (e :: es) [] pos) (tI G W (M.bind fs fun ds => M.lift (g ds))) :=
  PE.imp (pe_callTy hc hg hm hv ha hn hdb he hpl) (tCB_D (by rw [c.hK]; exact hr))
theorem en_callTN {g : List D → Option Co} (c : Kx bb X G W k) (hc : CallR X (.type T) r) (hr : CallN X.K r g) (hm : X.mg x = none) (hv : bootBuiltins x = some (.type T)) (ha : PA X (e :: es) (tA G W fs)) (hg : Gl X x := by rfl) (hn : x ≠ "__name__" := by decide) (hdb : (x == ("__debug__" : Str)) = false := by decide)
    (he : starEach (e :: es) X.env = (false, eval e X.env) :: starEach es X.env := by rfl) (hpl : (backTo pos (starEach es X.env)).any (·.1) = false := by rfl) : PE X (.Call (.Name x p) (e :: es) [] pos) (tN G W (M.bind fs fun ds => M.lift (g ds))) :=
  PE.imp (pe_callTy hc hg hm hv ha hn hdb he hpl) (tCB_N (by rw [c.hK]; exact hr))
theorem ei_callF {g : List D → Option D} (c : Kx bb X G W k) (hc : CallR X (.builtin id) r) (hr : CallS X.K r g) (hm : X.mg x = some (.builtin id)) (ha : PA X (e :: es) (tAK G W fs)) (hg : Gl X x := by rfl) (hdb : (x == ("__debug__" : Str)) = false := by decide)
    (he : starEach (e :: es) X.env = (false, eval e X.env) :: starEach es X.env := by rfl) (hpl : (backTo pos (starEach es X.env)).any (·.1) = false := by rfl) : PE X (.Call (.Name x p) (e :: es) [] pos) (tI G W (M.bind fs fun ds => M.lift (g ds))) :=
  PE.imp (pe_callBfun hc hg hm ha hdb he hpl) (tCB_S (by rw [c.hK]; exact hr))

/-! #### len, int, min, gcd, lcm, comb, sum, all, any -/
def lenD : List D → Option D
  | [.tup l] => some (.int l.length)
  | [.lst l] => some (.int l.length)
  | [.scr l] => some (.int l.length)
  | [.str s] => if s.length ≤ 100000 then some (.int s.length) else none
  | [.dic _ ks _] => some (.int ks.length)
  | _ => none
theorem lenD_of {K : PySem.W.Frag} : CallS K (fun xs H Q => (∃ x n, xs = [x] ∧ LenV K x H n ∧ Q (.int n) H) ∨ (rLenT xs H Q ∨ ∃ a kvs, xs = [V.ref a] ∧ H a = some (.dK kvs) ∧ Q (.int kvs.length) H)) lenD := fun H vs ds d Q rvs e q => by
  unfold lenD at e
  split at e
  · cases e
    cases rvs with
    | cons r1 r2 =>
      cases r2
      cases r1 with
      | tup h r => exact .inl ⟨_, _, rfl, .inr ⟨_, .of h, r.length.symm⟩, q _ fun _ => .int _⟩
  · cases e
    cases rvs with
    | cons r1 r2 =>
      cases r2
      cases r1 with
      | lst h r => exact .inl ⟨_, _, rfl, .inl ⟨_, .of h, r.length.symm⟩, q _ fun _ => .int _⟩
  · cases e
    cases rvs with
    | cons r1 r2 =>
      cases r2
      cases r1 with
      | scr h => exact .inl ⟨_, _, rfl, .inl ⟨_, h, by rw [List.length_map]⟩, q _ fun _ => .int _⟩
  · split at e
    · rename_i hl
      cases e
      cases rvs with
      | cons r1 r2 =>
        cases r2
        cases r1
        exact .inl ⟨_, _, rfl, ⟨line5 hl, rfl⟩, q _ fun _ => .int _⟩
    · cases e
  · cases e
    cases rvs with
    | cons r1 r2 =>
      cases r2
      cases r1 with
      | dcT h r =>
        refine .inr (.inl ⟨_, _, rfl, h, ?_⟩)
        have := q (.int _) fun _ => .int _
        rw [List.length_map] at this
        exact this
      | dcK h r =>
        refine .inr (.inr ⟨_, _, rfl, h, ?_⟩)
        have := q (.int _) fun _ => .int _
        rw [List.length_map] at this
        exact this
  · cases e
theorem ei_len (c : Kx bb X G W k) (hm : X.mg "len" = none) (ha : PE X e (tK G W f)) (hg : Gl X "len" := by rfl) (he : starEach [e] X.env = (false, eval e X.env) :: starEach [] X.env := by rfl) : PE X (.Call (.Name "len" p) [e] [] pos) (tI G W (M.bind (oneM f) fun ds => M.lift (lenD ds))) :=
  ei_callS c (call_len.or (call_len_dT.or call_lenD)) lenD_of hm PySem.boot_len (ea_one ha he) hg (by decide) (by decide) he rfl
def intD : List D → Option D
  | [.int i] => some (.int i)
  | [.bl b] => some (.int (if b then 1 else 0))
  | _ => none
theorem intD_of {K : PySem.W.Frag} : CallS K (fun xs H Q => (∃ i, xs = [.int i] ∧ Q (.int i) H) ∨ ∃ k, xs = [.bl k] ∧ Q (.int (if k then 1 else 0)) H) intD := fun H vs ds d Q rvs e q => by
  unfold intD at e
  split at e
  · cases e
    cases rvs with
    | cons r1 r2 =>
      cases r2
      cases r1
      exact .inl ⟨_, rfl, q _ fun _ => .int _⟩
  · cases e
    cases rvs with
    | cons r1 r2 =>
      cases r2
      cases r1
      exact .inr ⟨_, rfl, q _ fun _ => .int _⟩
  · cases e
theorem ei_int1 (c : Kx bb X G W k) (hm : X.mg "int" = none) (ha : PE X e (tI G W f)) (hg : Gl X "int" := by rfl) (he : starEach [e] X.env = (false, eval e X.env) :: starEach [] X.env := by rfl) : PE X (.Call (.Name "int" p) [e] [] pos) (tI G W (M.bind (oneM f) fun ds => M.lift (intD ds))) :=
  ei_callTS c call_int1 intD_of hm PyProof.Rows.boot_int (ea_one (PE.now ha) he) hg (by decide) (by decide) he rfl
def int2 (g : Int → Int → Option Int) : List D → Option D
  | [.int i, .int j] => (g i j).map D.int
  | _ => none
theorem int2_of {K : PySem.W.Frag} {g : Int → Int → Option Int} {r : List V → Hp → VK → Prop} (h : ∀ i j n H Q, g i j = some n → Q (.int n) H → r [.int i, .int j] H Q) : CallS K r (int2 g) := fun H vs ds d Q rvs e q => by
  unfold int2 at e
  split at e
  · obtain ⟨n, h1, h2⟩ := Option.map_eq_some_iff.mp e
    subst h2
    cases rvs with
    | cons r1 r2 =>
      cases r2 with
      | cons r2 r3 =>
        cases r3
        cases r1
        cases r2
        exact h _ _ n H Q h1 (q _ fun _ => .int _)
  · cases e
theorem ei_min2 (c : Kx true X G W k) (hm : X.mg "min" = none) (ha : PA X [a, b] (tA G W fs)) (hg : Gl X "min" := by rfl) (he : starEach [a, b] X.env = (false, eval a X.env) :: starEach [b] X.env := by rfl) (hpl : (backTo pos (starEach [b] X.env)).any (·.1) = false := by rfl) :
    PE X (.Call (.Name "min" p) [a, b] [] pos) (tI G W (M.bind fs fun ds => M.lift (int2 (fun i j => some (if j < i then j else i)) ds))) :=
  ei_callS c (call_min2 (c.calm rfl)) (int2_of fun i j n H Q e q => ⟨i, j, rfl, by cases e; exact q⟩) hm PyProof.Rows.boot_min (ea_now ha) hg (by decide) (by decide) he hpl
theorem ei_max2 (c : Kx true X G W k) (hm : X.mg "max" = none) (ha : PA X [a, b] (tA G W fs)) (hg : Gl X "max" := by rfl) (he : starEach [a, b] X.env = (false, eval a X.env) :: starEach [b] X.env := by rfl) (hpl : (backTo pos (starEach [b] X.env)).any (·.1) = false := by rfl) :
    PE X (.Call (.Name "max" p) [a, b] [] pos) (tI G W (M.bind fs fun ds => M.lift (int2 (fun i j => some (if j > i then j else i)) ds))) :=
  ei_callS c (call_max2 (c.calm rfl)) (int2_of fun i j n H Q e q => ⟨i, j, rfl, by cases e; exact q⟩) hm PyProof.Rows.boot_max (ea_now ha) hg (by decide) (by decide) he hpl
def gcdI (i j : Int) : Option Int := some ((Nat.gcd i.natAbs j.natAbs : Nat) : Int)
theorem ei_gcd (c : Kx bb X G W k) (hm : X.mg "gcd" = some (.builtin "math.gcd")) (ha : PA X [a, b] (tA G W fs)) (hg : Gl X "gcd" := by rfl) (he : starEach [a, b] X.env = (false, eval a X.env) :: starEach [b] X.env := by rfl) (hpl : (backTo pos (starEach [b] X.env)).any (·.1) = false := by rfl) :
    PE X (.Call (.Name "gcd" p) [a, b] [] pos) (tI G W (M.bind fs fun ds => M.lift (int2 gcdI ds))) :=
  ei_callF c cr_gcd (int2_of fun i j n H Q e q => ⟨i, j, rfl, by cases e; exact q⟩) hm (ea_now ha) hg (by decide) he hpl
theorem lcm_small {a b : Nat} (ha : a < 1000) (hb : b < 1000) : ((((Nat.lcm 1 a).lcm b : Nat) : Int)).natAbs.log2 < bitsLine := by
  have h1 : Nat.lcm 1 a = a := Nat.lcm_one_left a
  have h2 : Nat.lcm a b ≤ a * b := by
    unfold Nat.lcm
    exact Nat.div_le_self _ _
  have h3 : a * b ≤ 1000 * 1000 := Nat.mul_le_mul (Nat.le_of_lt ha) (Nat.le_of_lt hb)
  rw [h1, Int.natAbs_natCast]
  have h4 : (Nat.lcm a b).log2 ≤ 63 := PySem.W.mg_log (by omega)
  exact Nat.lt_of_le_of_lt h4 (by decide)
def rLcm : List V → Hp → VK → Prop := fun vs H Q => ∃ i j : Int, vs = [.int i, .int j] ∧ i.natAbs < 1000 ∧ j.natAbs < 1000 ∧ Q (.int (((Nat.lcm 1 i.natAbs).lcm j.natAbs : Nat) : Int)) H
theorem cr_lcm : CallR X (.builtin "math.lcm") rLcm := fun pins s σ H vs us Q I r ⟨i, j, e, h1, h2, q⟩ => by
  subst e
  obtain ⟨t, u, rfl⟩ := Vals.int2 r
  exact PySem.W.mg_lcm (by omega) (by omega) (lcm_small h1 h2) (show EP X pins σ Q _ _ from ⟨.int _, H, I.tok _, ⟨_, rfl⟩, q⟩)
def lcmI (i j : Int) : Option Int := if i.natAbs < 1000 ∧ j.natAbs < 1000 then some (((Nat.lcm 1 i.natAbs).lcm j.natAbs : Nat) : Int) else none
theorem ei_lcm (c : Kx bb X G W k) (hm : X.mg "lcm" = some (.builtin "math.lcm")) (ha : PA X [a, b] (tA G W fs)) (hg : Gl X "lcm" := by rfl) (he : starEach [a, b] X.env = (false, eval a X.env) :: starEach [b] X.env := by rfl) (hpl : (backTo pos (starEach [b] X.env)).any (·.1) = false := by rfl) :
    PE X (.Call (.Name "lcm" p) [a, b] [] pos) (tI G W (M.bind fs fun ds => M.lift (int2 lcmI ds))) :=
  ei_callF c cr_lcm (int2_of fun i j n H Q e q => by
    unfold lcmI at e
    split at e
    · rename_i h
      cases e
      exact ⟨i, j, rfl, h.1, h.2, q⟩
    · cases e) hm (ea_now ha) hg (by decide) he hpl
def rComb : List V → Hp → VK → Prop := fun vs H Q => ∃ i j : Int, vs = [.int i, .int j] ∧ 0 ≤ i ∧ 0 ≤ j ∧ i < 1000 ∧ Q (.int (PySem.W.mcComb i j)) H
theorem cr_comb : CallR X (.builtin "math.comb") rComb := fun pins s σ H vs us Q I r ⟨i, j, e, h1, h2, h3, q⟩ => by
  subst e
  obtain ⟨t, u, rfl⟩ := Vals.int2 r
  exact PySem.W.mc_comb h1 h2 (by omega) (.inr (by omega)) fun _ => (show EP X pins σ Q _ _ from ⟨.int _, H, I.tok _, ⟨_, rfl⟩, q⟩)
def combI (i j : Int) : Option Int := if 0 ≤ i ∧ 0 ≤ j ∧ i < 1000 then some (PySem.W.mcComb i j) else none
theorem ei_comb (c : Kx bb X G W k) (hm : X.mg "comb" = some (.builtin "math.comb")) (ha : PA X [a, b] (tA G W fs)) (hg : Gl X "comb" := by rfl) (he : starEach [a, b] X.env = (false, eval a X.env) :: starEach [b] X.env := by rfl) (hpl : (backTo pos (starEach [b] X.env)).any (·.1) = false := by rfl) :
    PE X (.Call (.Name "comb" p) [a, b] [] pos) (tI G W (M.bind fs fun ds => M.lift (int2 combI ds))) :=
  ei_callF c cr_comb (int2_of fun i j n H Q e q => by
    unfold combI at e
    split at e
    · rename_i h
      cases e
      exact ⟨i, j, rfl, h.1, h.2.1, h.2.2, q⟩
    · cases e) hm (ea_now ha) hg (by decide) he hpl
def intsOf : List D → Option (List Int)
  | [] => some []
  | .int i :: r => (intsOf r).map (i :: ·)
  | _ => none
theorem intsOf_eq : ∀ {ds : List D} {ns : List Int}, intsOf ds = some ns → ds = ns.map D.int
  | [], ns, h => by cases h; rfl
  | d :: r, ns, h => by
    cases d <;> simp only [intsOf, reduceCtorEq] at h
    obtain ⟨ms, h1, h2⟩ := Option.map_eq_some_iff.mp h
    subst h2
    rw [List.map_cons, intsOf_eq h1]
theorem intsOf_map : ∀ ns : List Int, intsOf (ns.map D.int) = some ns
  | [] => rfl
  | n :: r => by rw [List.map_cons, intsOf, intsOf_map r]; rfl
def blsOf : List D → Option (List Bool)
  | [] => some []
  | .bl i :: r => (blsOf r).map (i :: ·)
  | _ => none
theorem blsOf_eq : ∀ {ds : List D} {ns : List Bool}, blsOf ds = some ns → ds = ns.map D.bl
  | [], ns, h => by cases h; rfl
  | d :: r, ns, h => by
    cases d <;> simp only [blsOf, reduceCtorEq] at h
    obtain ⟨ms, h1, h2⟩ := Option.map_eq_some_iff.mp h
    subst h2
    rw [List.map_cons, blsOf_eq h1]
def onInts (g : List Int → Option D) : List D → Option D
  | [.lst l] => (intsOf l).bind g
  | _ => none
def onBls (g : List Bool → Option D) : List D → Option D
  | [.lst l] => (blsOf l).bind g
  | _ => none
theorem sumD_of {K : PySem.W.Frag} : CallS K (rSum K) (onInts fun ns => some (.int ns.sum)) := fun H vs ds d Q rvs e q => by
  unfold onInts at e
  split at e
  · obtain ⟨ns, h1, h2⟩ := Option.bind_eq_some_iff.mp e
    cases h2
    have e1 := intsOf_eq h1
    subst e1
    cases rvs with
    | cons r1 r2 =>
      cases r2
      cases r1 with
      | lst h r =>
        have e2 := r.of_ints
        subst e2
        exact ⟨_, ns, rfl, .of h, q _ fun _ => .int _⟩
  · cases e
theorem ei_sum (c : Kx true X G W k) (hm : X.mg "sum" = none) (ha : PE X e (tI G W f)) (hg : Gl X "sum" := by rfl) (he : starEach [e] X.env = (false, eval e X.env) :: starEach [] X.env := by rfl) : PE X (.Call (.Name "sum" p) [e] [] pos) (tI G W (M.bind (oneM f) fun ds => M.lift (onInts (fun ns => some (.int ns.sum)) ds))) :=
  ei_callS c (cr_sum (c.calm rfl)) sumD_of hm PyProof.Rows.boot_sum (ea_one (PE.now ha) he) hg (by decide) (by decide) he rfl
theorem blD_of {K : PySem.W.Frag} {g : List Bool → Bool} : CallS K (fun vs H Q => ∃ (a : Addr) (bs : List Bool), vs = [V.ref a] ∧ SqL K H a (bs.map V.bl) ∧ Q (.bl (g bs)) H) (onBls fun ns => some (.bl (g ns))) := fun H vs ds d Q rvs e q => by
  unfold onBls at e
  split at e
  · obtain ⟨ns, h1, h2⟩ := Option.bind_eq_some_iff.mp e
    cases h2
    have e1 := blsOf_eq h1
    subst e1
    cases rvs with
    | cons r1 r2 =>
      cases r2
      cases r1 with
      | lst h r =>
        have e2 := r.of_bls
        subst e2
        exact ⟨_, ns, rfl, .of h, q _ fun _ => .bl _⟩
  · cases e
theorem ei_all (c : Kx true X G W k) (hm : X.mg "all" = none) (ha : PE X e (tI G W f)) (hg : Gl X "all" := by rfl) (he : starEach [e] X.env = (false, eval e X.env) :: starEach [] X.env := by rfl) : PE X (.Call (.Name "all" p) [e] [] pos) (tI G W (M.bind (oneM f) fun ds => M.lift (onBls (fun ns => some (.bl (ns.all (fun b => b)))) ds))) :=
  ei_callS c (cr_all (c.calm rfl)) (blD_of (g := fun ns => ns.all (fun b => b))) hm PyProof.Rows.boot_all (ea_one (PE.now ha) he) hg (by decide) (by decide) he rfl
theorem ei_any (c : Kx true X G W k) (hm : X.mg "any" = none) (ha : PE X e (tI G W f)) (hg : Gl X "any" := by rfl) (he : starEach [e] X.env = (false, eval e X.env) :: starEach [] X.env := by rfl) : PE X (.Call (.Name "any" p) [e] [] pos) (tI G W (M.bind (oneM f) fun ds => M.lift (onBls (fun ns => some (.bl (ns.any (fun b => b)))) ds))) :=
  ei_callS c (cr_any (c.calm rfl)) (blD_of (g := fun ns => ns.any (fun b => b))) hm PyProof.Rows.boot_any (ea_one (PE.now ha) he) hg (by decide) (by decide) he rfl
end
end Dn

/-! isinstance, sorted, tuple, list -/
namespace Dn
open PySem PySem.Spec PyProof.Rows L2
section
variable {bb : Bool} {X : Cx} {G : Gx} {W : WX} {k : Nat} {pos p p2 p3 p4 : Pos} {a b c e : Expr} {es : List Expr} {fa fb fc f : M D} {fs : M (List D)}

/-! ### isinstance -/
def D.ty : D → String
  | .non => "NoneType"
  | .bl _ => "bool"
  | .int _ => "int"
  | .str _ => "str"
  | .tup _ => "tuple"
  | .lst _ => "list"
  | .dic _ _ _ => "dict"
  | .scr _ => "list"
/-- the classes that are asked -/
inductive Ty where
  | int | bool | tuple | list | str | dict
def Ty.s : Ty → String
  | .int => "int"
  | .bool => "bool"
  | .tuple => "tuple"
  | .list => "list"
  | .str => "str"
  | .dict => "dict"
def isTy : Ty → D → Bool
  | .int, .int _ => true
  | .int, .bl _ => true
  | .bool, .bl _ => true
  | .tuple, .tup _ => true
  | .list, .lst _ => true
  | .list, .scr _ => true
  | .str, .str _ => true
  | .dict, .dic _ _ _ => true
  | _, _ => false
theorem kit_NoneType_int : kitB "NoneType" "int" = some false := by decide +kernel
theorem kit_NoneType_bool : kitB "NoneType" "bool" = some false := by decide +kernel
theorem kit_NoneType_tuple : kitB "NoneType" "tuple" = some false := by decide +kernel
theorem kit_NoneType_list : kitB "NoneType" "list" = some false := by decide +kernel
theorem kit_NoneType_str : kitB "NoneType" "str" = some false := by decide +kernel
theorem kit_NoneType_dict : kitB "NoneType" "dict" = some false := by decide +kernel
theorem kit_bool_int : kitB "bool" "int" = some true := by decide +kernel
theorem kit_bool_bool : kitB "bool" "bool" = some true := by decide +kernel
theorem kit_bool_tuple : kitB "bool" "tuple" = some false := by decide +kernel
theorem kit_bool_list : kitB "bool" "list" = some false := by decide +kernel
theorem kit_bool_str : kitB "bool" "str" = some false := by decide +kernel
theorem kit_bool_dict : kitB "bool" "dict" = some false := by decide +kernel
theorem kit_dict_int : kitB "dict" "int" = some false := by decide +kernel
theorem kit_dict_bool : kitB "dict" "bool" = some false := by decide +kernel
theorem kit_dict_tuple : kitB "dict" "tuple" = some false := by decide +kernel
theorem kit_dict_list : kitB "dict" "list" = some false := by decide +kernel
theorem kit_dict_str : kitB "dict" "str" = some false := by decide +kernel
theorem kit_dict_dict : kitB "dict" "dict" = some true := by decide +kernel
theorem kit_int_int : kitB "int" "int" = some true := by decide +kernel
theorem kit_int_bool : kitB "int" "bool" = some false := by decide +kernel
theorem kit_int_tuple : kitB "int" "tuple" = some false := by decide +kernel
theorem kit_int_list : kitB "int" "list" = some false := by decide +kernel
theorem kit_int_str : kitB "int" "str" = some false := by decide +kernel
theorem kit_int_dict : kitB "int" "dict" = some false := by decide +kernel
theorem kit_list_int : kitB "list" "int" = some false := by decide +kernel
theorem kit_list_bool : kitB "list" "bool" = some false := by decide +kernel
theorem kit_list_tuple : kitB "list" "tuple" = some false := by decide +kernel
theorem kit_list_list : kitB "list" "list" = some true := by decide +kernel
theorem kit_list_str : kitB "list" "str" = some false := by decide +kernel
theorem kit_list_dict : kitB "list" "dict" = some false := by decide +kernel
theorem kit_str_int : kitB "str" "int" = some false := by decide +kernel
theorem kit_str_bool : kitB "str" "bool" = some false := by decide +kernel
theorem kit_str_tuple : kitB "str" "tuple" = some false := by decide +kernel
theorem kit_str_list : kitB "str" "list" = some false := by decide +kernel
theorem kit_str_str : kitB "str" "str" = some true := by decide +kernel
theorem kit_str_dict : kitB "str" "dict" = some false := by decide +kernel
theorem kit_tuple_int : kitB "tuple" "int" = some false := by decide +kernel
theorem kit_tuple_bool : kitB "tuple" "bool" = some false := by decide +kernel
theorem kit_tuple_tuple : kitB "tuple" "tuple" = some true := by decide +kernel
theorem kit_tuple_list : kitB "tuple" "list" = some false := by decide +kernel
theorem kit_tuple_str : kitB "tuple" "str" = some false := by decide +kernel
theorem kit_tuple_dict : kitB "tuple" "dict" = some false := by decide +kernel
theorem kit_D : ∀ (t : Ty) (d : D), kitB d.ty t.s = some (isTy t d)
  | .int, .non => kit_NoneType_int
  | .int, .bl _ => kit_bool_int
  | .int, .int _ => kit_int_int
  | .int, .str _ => kit_str_int
  | .int, .tup _ => kit_tuple_int
  | .int, .lst _ => kit_list_int
  | .int, .dic _ _ _ => kit_dict_int
  | .int, .scr _ => kit_list_int
  | .bool, .non => kit_NoneType_bool
  | .bool, .bl _ => kit_bool_bool
  | .bool, .int _ => kit_int_bool
  | .bool, .str _ => kit_str_bool
  | .bool, .tup _ => kit_tuple_bool
  | .bool, .lst _ => kit_list_bool
  | .bool, .dic _ _ _ => kit_dict_bool
  | .bool, .scr _ => kit_list_bool
  | .tuple, .non => kit_NoneType_tuple
  | .tuple, .bl _ => kit_bool_tuple
  | .tuple, .int _ => kit_int_tuple
  | .tuple, .str _ => kit_str_tuple
  | .tuple, .tup _ => kit_tuple_tuple
  | .tuple, .lst _ => kit_list_tuple
  | .tuple, .dic _ _ _ => kit_dict_tuple
  | .tuple, .scr _ => kit_list_tuple
  | .list, .non => kit_NoneType_list
  | .list, .bl _ => kit_bool_list
  | .list, .int _ => kit_int_list
  | .list, .str _ => kit_str_list
  | .list, .tup _ => kit_tuple_list
  | .list, .lst _ => kit_list_list
  | .list, .dic _ _ _ => kit_dict_list
  | .list, .scr _ => kit_list_list
  | .str, .non => kit_NoneType_str
  | .str, .bl _ => kit_bool_str
  | .str, .int _ => kit_int_str
  | .str, .str _ => kit_str_str
  | .str, .tup _ => kit_tuple_str
  | .str, .lst _ => kit_list_str
  | .str, .dic _ _ _ => kit_dict_str
  | .str, .scr _ => kit_list_str
  | .dict, .non => kit_NoneType_dict
  | .dict, .bl _ => kit_bool_dict
  | .dict, .int _ => kit_int_dict
  | .dict, .str _ => kit_str_dict
  | .dict, .tup _ => kit_tuple_dict
  | .dict, .lst _ => kit_list_dict
  | .dict, .dic _ _ _ => kit_dict_dict
  | .dict, .scr _ => kit_list_dict
theorem tyx_of {K : PySem.W.Frag} {H : Hp} {v : V} {d : D} (r : Rp K H v d) : TyX K H v (.type d.ty) := by
  cases r with
  | non => exact .base .non
  | bl b => exact .base (.bl b)
  | int i => exact .base (.int i)
  | str x => exact .base (.str x)
  | tup h _ => exact .base (.tup h)
  | lst h _ => exact .base (.lst h)
  | dcT h _ => exact .base (.dT h)
  | dcK h _ => exact .base (.dK h)
  | scr h =>
    rcases h with (h | ⟨o, h⟩) | ⟨o, its, n, h, hc, _⟩
    · exact .base (.lst h)
    · exact .base (.frz h)
    · exact .kList h hc
theorem boot_ty (t : Ty) : bootBuiltins t.s = some (.type t.s) := by cases t <;> decide +kernel
def isiM (t : Ty) (f : M D) : M D := M.bind f fun d => M.pure (.bl (isTy t d))
theorem ei_isi (t : Ty) (c : Kx bb X G W k) (hm : X.mg "isinstance" = none) (ht : X.mg t.s = none) (ha : PE X e (tI G W f)) (hg : Gl X "isinstance" := by rfl) (hgt : Gl X t.s := by rfl) (he : starEach [e, .Name t.s p2] X.env = (false, eval e X.env) :: starEach [.Name t.s p2] X.env := by rfl)
    (hs : starEach [.Name t.s p2] X.env = (false, eval (.Name t.s p2) X.env) :: starEach [] X.env := by rfl) (hn : (t.s : Str) ≠ "__name__" := by decide) (hd : ((t.s : Str) == ("__debug__" : Str)) = false := by decide) (hpl : (backTo pos (starEach [.Name t.s p2] X.env)).any (·.1) = false := by rfl) :
    PE X (.Call (.Name "isinstance" p) [e, .Name t.s p2] [] pos) (tI G W (isiM t f)) :=
  PE.imp (pe_callB call_isi hg hm PyProof.Rows.boot_isinstance (pa_cons (PE.now ha) (pa_cons (pe_bltn (v := .ty t.s) hgt ht (boot_ty t) rfl hn hd) pa_nil hs) he) (by decide) (by decide) he hpl) fun σ H Q ⟨F, ρ, τ, R, q⟩ => ⟨F, ρ, τ, R, (Fin.bind q).imp fun d ρ1 F1 H1 s1 R1 q1 v rv =>
    ⟨v, .ty t.s, .type d.ty, .type t.s, isTy t d, rfl, .ty _, tyx_of (by rw [← c.hK]; exact rv), kit_ty (kit_D t d), Fin.pure q1 F1 H1 (Same.refl _) R1 _ (.bl _)⟩⟩
/-- of two classes -/
def isi2M (t u : Ty) (f : M D) : M D := M.bind f fun d => M.pure (.bl (isTy t d || isTy u d))
theorem ei_isi2 (t u : Ty) (c : Kx bb X G W k) (hm : X.mg "isinstance" = none) (ht : X.mg t.s = none) (hu : X.mg u.s = none) (ha : PE X e (tI G W f)) {x1 : Nat} (hg : Gl X "isinstance" := by rfl) (hgt : Gl X t.s := by rfl) (hgu : Gl X u.s := by rfl)
    (he : starEach [e, .Tuple [.Name t.s p2, .Name u.s p3] x1 p4] X.env = (false, eval e X.env) :: starEach [.Tuple [.Name t.s p2, .Name u.s p3] x1 p4] X.env := by rfl)
    (hs : starEach [.Tuple [.Name t.s p2, .Name u.s p3] x1 p4] X.env = (false, eval (.Tuple [.Name t.s p2, .Name u.s p3] x1 p4) X.env) :: starEach [] X.env := by rfl)
    (h1 : starEach [.Name t.s p2, .Name u.s p3] X.env = (false, eval (.Name t.s p2) X.env) :: starEach [.Name u.s p3] X.env := by rfl) (h2 : starEach [.Name u.s p3] X.env = (false, eval (.Name u.s p3) X.env) :: starEach [] X.env := by rfl)
    (hn : (t.s : Str) ≠ "__name__" := by decide) (hd : ((t.s : Str) == ("__debug__" : Str)) = false := by decide) (hn' : (u.s : Str) ≠ "__name__" := by decide) (hd' : ((u.s : Str) == ("__debug__" : Str)) = false := by decide)
    (hpl : (backTo pos (starEach [.Tuple [.Name t.s p2, .Name u.s p3] x1 p4] X.env)).any (·.1) = false := by rfl) :
    PE X (.Call (.Name "isinstance" p) [e, .Tuple [.Name t.s p2, .Name u.s p3] x1 p4] [] pos) (tI G W (isi2M t u f)) :=
  PE.imp (pe_callB call_isiT hg hm PyProof.Rows.boot_isinstance (pa_cons ha (pa_cons (pe_tup (pa_cons (pe_bltn (v := .ty t.s) hgt ht (boot_ty t) rfl hn hd) (pa_cons (pe_bltn (v := .ty u.s) hgu hu (boot_ty u) rfl hn' hd') pa_nil h2) h1)) pa_nil hs) he) (by decide) (by decide) he hpl) fun σ H Q ⟨F, ρ, τ, R, q⟩ => ⟨F, ρ, τ, R, (Fin.bind q).imp fun d ρ1 F1 H1 s1 R1 q1 v rv => by
    refine ⟨by rw [sizeLine_eq]; simp, fun q' hq => ⟨v, q', [.ty t.s, .ty u.s], .type d.ty, [.type t.s, .type u.s], isTy t d || isTy u d, rfl, upd_same, .cons (.ty _) (.cons (.ty _) .nil), tyx_of ?_, ?_, ?_⟩⟩
    · rw [← c.hK]
      exact rv.mono (R1.sub.trans (same_upd hq))
    · refine kitAny_cons (kit_ty (kit_D t d)) (fun e => ?_) fun e => by rw [e]; rfl
      rw [e, Bool.false_or]
      refine kitAny_cons (kit_ty (kit_D u d)) (fun e => ?_) fun e => e
      rw [e]
      exact kitAny_nil
    · exact Fin.pure q1 F1 _ (Same.refl _) (R1.ext (Ext.loose _ R1.sub hq)) _ (.bl _)⟩

/-! ### sorted -/
theorem sorted_uniq {α : Type} {le : α → α → Prop} (anti : ∀ a b, le a b → le b a → a = b) : ∀ {l m : List α}, l.Perm m → l.Pairwise le → m.Pairwise le → l = m
  | [], m, h, _, _ => h.nil_eq
  | x :: xs, m, h, h1, h2 => by
    cases m with
    | nil => exact absurd h.length_eq (by simp)
    | cons y ys =>
      have hx : x ∈ y :: ys := h.mem_iff.mp List.mem_cons_self
      have hy : y ∈ x :: xs := h.mem_iff.mpr List.mem_cons_self
      have e : x = y := by
        rcases List.mem_cons.mp hx with e | hx
        · exact e
        · rcases List.mem_cons.mp hy with e | hy
          · exact e.symm
          · exact anti x y ((List.pairwise_cons.mp h1).1 y hy) ((List.pairwise_cons.mp h2).1 x hx)
      subst e
      rw [sorted_uniq anti (h.cons_inv) (List.pairwise_cons.mp h1).2 (List.pairwise_cons.mp h2).2]
/-- put in its place; sorted by putting -/
def ins {α : Type} (le : α → α → Bool) (x : α) : List α → List α
  | [] => [x]
  | y :: r => if le x y then x :: y :: r else y :: ins le x r
def isort {α : Type} (le : α → α → Bool) : List α → List α
  | [] => []
  | x :: r => ins le x (isort le r)
section
variable {α : Type} {le : α → α → Bool}
theorem ins_perm (x : α) : ∀ l : List α, (ins le x l).Perm (x :: l)
  | [] => .refl _
  | y :: r => by
    unfold ins
    split
    · exact .refl _
    · exact ((ins_perm x r).cons y).trans (.swap x y r)
theorem isort_perm : ∀ l : List α, (isort le l).Perm l
  | [] => .refl _
  | x :: r => (ins_perm x _).trans ((isort_perm r).cons x)
theorem ins_sorted (tot : ∀ a b, le a b = false → le b a = true) (tr : ∀ a b c, le a b = true → le b c = true → le a c = true) (x : α) : ∀ {l : List α}, l.Pairwise (fun a b => le a b = true) → (ins le x l).Pairwise fun a b => le a b = true
  | [], _ => by simp [ins]
  | y :: r, h => by
    have h1 := List.pairwise_cons.mp h
    unfold ins
    by_cases e : le x y = true
    · rw [if_pos e]
      refine List.pairwise_cons.mpr ⟨fun z hz => ?_, h⟩
      rcases List.mem_cons.mp hz with rfl | hz
      · exact e
      · exact tr _ _ _ e (h1.1 z hz)
    · rw [if_neg e]
      refine List.pairwise_cons.mpr ⟨fun z hz => ?_, ins_sorted tot tr x h1.2⟩
      rcases List.mem_cons.mp ((ins_perm x r).mem_iff.mp hz) with rfl | hz
      · exact tot _ _ (by simpa using e)
      · exact h1.1 z hz
theorem isort_sorted (tot : ∀ a b, le a b = false → le b a = true) (tr : ∀ a b c, le a b = true → le b c = true → le a c = true) : ∀ l : List α, (isort le l).Pairwise fun a b => le a b = true
  | [] => .nil
  | x :: r => ins_sorted tot tr x (isort_sorted tot tr r)
end
def leI (a b : Int) : Bool := decide (a ≤ b)
def leP (a b : Int × Int) : Bool := if a.1 = b.1 then decide (a.2 ≤ b.2) else decide (a.1 ≤ b.1)
theorem leP_iff {a b : Int × Int} : leP a b = true ↔ a.1 < b.1 ∨ (a.1 = b.1 ∧ a.2 ≤ b.2) := by
  unfold leP
  split
  · rw [decide_eq_true_eq]; omega
  · rw [decide_eq_true_eq]; omega
theorem leP_tot (a b : Int × Int) (h : leP a b = false) : leP b a = true := by
  have : ¬ leP a b = true := by rw [h]; decide
  rw [leP_iff] at this ⊢
  omega
theorem leP_tr (a b c : Int × Int) (h : leP a b = true) (h2 : leP b c = true) : leP a c = true := by
  rw [leP_iff] at h h2 ⊢
  omega
theorem leP_anti (a b : Int × Int) (h : leP a b = true) (h2 : leP b a = true) : a = b := by
  rw [leP_iff] at h h2
  obtain ⟨a1, a2⟩ := a
  obtain ⟨b1, b2⟩ := b
  simp only at h h2
  have e1 : a1 = b1 := by omega
  have e2 : a2 = b2 := by omega
  rw [e1, e2]
theorem leI_tot (a b : Int) (h : leI a b = false) : leI b a = true := by
  unfold leI at h ⊢
  rw [decide_eq_false_iff_not] at h
  rw [decide_eq_true_eq]; omega
theorem leI_tr (a b c : Int) (h : leI a b = true) (h2 : leI b c = true) : leI a c = true := by
  unfold leI at h h2 ⊢
  rw [decide_eq_true_eq] at h h2 ⊢
  omega
theorem leI_anti (a b : Int) (h : leI a b = true) (h2 : leI b a = true) : a = b := by
  unfold leI at h h2
  rw [decide_eq_true_eq] at h h2
  omega
def pD (z : Int × Int) : D := .tup [.int z.1, .int z.2]
def pairsOf : List D → Option (List (Int × Int))
  | [] => some []
  | .tup [.int i, .int j] :: r => (pairsOf r).map ((i, j) :: ·)
  | _ => none
theorem pairsOf_map : ∀ zs : List (Int × Int), pairsOf (zs.map pD) = some zs
  | [] => rfl
  | (i, j) :: r => by rw [List.map_cons, pD, pairsOf, pairsOf_map r]; rfl
theorem pairsOf_eq : ∀ {ds : List D} {zs : List (Int × Int)}, pairsOf ds = some zs → ds = zs.map pD
  | [], zs, h => by cases h; rfl
  | d :: r, zs, h => by
    unfold pairsOf at h
    split at h
    · rename_i h1
      cases h1
    · rename_i i j r' h1
      cases h1
      obtain ⟨ms, h2, h3⟩ := Option.map_eq_some_iff.mp h
      subst h3
      rw [List.map_cons, pairsOf_eq h2]
      rfl
    · cases h
def sortL (l : List D) : Option (List D) := match intsOf l with
  | some ns => some ((isort leI ns).map D.int)
  | none => (pairsOf l).map fun zs => (isort leP zs).map pD
def sortD : List D → Option Co
  | [.lst l] => (sortL l).map Co.lst
  | _ => none
theorem RpA.pairs {K : PySem.W.Frag} {F : Hp} : ∀ {zs : List (Int × Int)} {vs : List V}, RpA K F vs (zs.map pD) → Paired (fun v z => ∃ t, v = V.ref t ∧ F t = some (.tup [.int z.1, .int z.2])) vs zs
  | [], _, h => by cases h; exact .nil
  | z :: r, _, h => by
    cases h with
    | cons h1 h2 =>
      refine .cons ?_ (RpA.pairs h2)
      cases h1 with
      | tup h3 h4 =>
        cases h4 with
        | cons a1 a2 =>
          cases a2 with
          | cons a2 a3 =>
            cases a3
            cases a1
            cases a2
            exact ⟨_, rfl, h3⟩
theorem sortedP_of {K : PySem.W.Frag} : CallN K (fun vs H Q => rSortedI K vs H Q ∨ rSortedPO K vs H Q) sortD := fun F H vs ds c Q s rvs e q => by
  unfold sortD at e
  split at e
  · rename_i l
    obtain ⟨l', e1, e2⟩ := Option.map_eq_some_iff.mp e
    subst e2
    cases rvs with
    | cons r1 r2 =>
      cases r2
      cases r1 with
      | lst h r =>
        rename_i aa xs
        unfold sortL at e1
        split at e1
        · rename_i ns hn
          have e3 := intsOf_eq hn
          subst e3
          have e4 := r.of_ints
          subst e4
          have e1 := Option.some.inj e1
          subst e1
          refine .inl ⟨aa, ns, rfl, .of (s _ _ h), fun ns' p hp hs hn => ?_⟩
          have e5 : ns' = isort leI ns := by
            refine sorted_uniq (le := fun a b => leI a b = true) leI_anti (hp.trans (isort_perm ns).symm) (hs.imp fun h => decide_eq_true h) (isort_sorted leI_tot leI_tr ns)
          rw [e5]
          exact q p _ hn ⟨_, rfl, RpA.ints _⟩
        · obtain ⟨zs, h1, h2⟩ := Option.map_eq_some_iff.mp e1
          subst h2
          have e3 := pairsOf_eq h1
          subst e3
          have pr := r.pairs
          -- what stands at a reference
          let kk : V → Int × Int := fun v => match v with
            | .ref t => match F t with
              | some (.tup [.int i, .int j]) => (i, j)
              | _ => (0, 0)
            | _ => (0, 0)
          have hk : ∀ {xs : List V} {zs : List (Int × Int)}, Paired (fun v z => ∃ t, v = V.ref t ∧ F t = some (.tup [.int z.1, .int z.2])) xs zs → xs.map kk = zs ∧ ∀ x ∈ xs, ∃ t, x = V.ref t ∧ F t = some (.tup [.int (kk x).1, .int (kk x).2]) := by
            intro xs zs pr
            induction pr with
            | nil => exact ⟨rfl, fun x hx => by cases hx⟩
            | @cons v z vs zs h t ih =>
              obtain ⟨t0, rfl, ht⟩ := h
              have ek : kk (.ref t0) = z := by
                show (match F t0 with
                  | some (.tup [.int i, .int j]) => (i, j)
                  | _ => (0, 0)) = z
                rw [ht]
              refine ⟨by rw [List.map_cons, ek, ih.1], fun x hx => ?_⟩
              rcases List.mem_cons.mp hx with rfl | hx
              · exact ⟨t0, rfl, by rw [ek]; exact ht⟩
              · exact ih.2 x hx
          obtain ⟨k1, k2⟩ := hk pr
          refine .inr ⟨aa, xs, kk, rfl, .of (s _ _ h), fun x hx => ?_, fun ys p hs hb hn => ?_⟩
          · obtain ⟨t, e3, e4⟩ := k2 x hx
            exact ⟨t, e3, s _ _ e4⟩
          · have hperm : ys.Perm xs := hb.perm
            have e5 : ys.map kk = isort leP zs := by
              refine sorted_uniq (le := fun a b => leP a b = true) leP_anti ((hperm.map kk).trans (by rw [k1]; exact (isort_perm zs).symm)) ?_ (isort_sorted leP_tot leP_tr zs)
              refine List.pairwise_map.mpr (List.Pairwise.imp (fun {x y} hxy => ?_) hs)
              have hxy' := SrtO.lexB_no.mp hxy
              rw [leP_iff]
              omega
            have rr : ∀ {ys : List V}, (∀ y ∈ ys, y ∈ xs) → RpA K F ys ((ys.map kk).map pD) := by
              intro ys
              induction ys with
              | nil => intro _; exact .nil
              | cons y r ih =>
                intro hy
                obtain ⟨t, e3, e4⟩ := k2 y (hy y List.mem_cons_self)
                refine .cons ?_ (ih fun z hz => hy z (List.mem_cons_of_mem _ hz))
                rw [e3] at e4 ⊢
                exact .tup e4 (.cons (.int _) (.cons (.int _) .nil))
            refine q p _ hn ⟨_, rfl, ?_⟩
            rw [← e5]
            exact rr fun y hy => hperm.mem_iff.mp hy
  · cases e
theorem en_sorted (c : Kx bb X G W k) (hm : X.mg "sorted" = none) (ha : PE X e (tI G W f)) (hg : Gl X "sorted" := by rfl) (he : starEach [e] X.env = (false, eval e X.env) :: starEach [] X.env := by rfl) : PE X (.Call (.Name "sorted" p) [e] [] pos) (tN G W (M.bind (consM f (M.pure [])) fun ds => M.lift (sortD ds))) :=
  en_callN c (cr_sortedI.or cr_sortedPO) sortedP_of hm PyProof.Rows.boot_sorted (ea_cons ha ea_nil he) hg (by decide) (by decide) he rfl

/-! ### tuple(x), list(x) -/
def tupleD : List D → Option D
  | [.lst l] => some (.tup l)
  | [.tup l] => some (.tup l)
  | _ => none
def listD : List D → Option Co
  | [.lst l] => some (.lst l)
  | [.tup l] => some (.lst l)
  | _ => none
theorem tupleD_of {K : PySem.W.Frag} : CallD K (fun xs H Q => ∃ p ys, xs = [.ref p] ∧ ((SqL K H p ys ∧ ∀ l, H l = none → Q (.ref l) (upd H l (.tup ys))) ∨ (SqT K H p ys ∧ Q (.ref p) H))) tupleD := fun F H vs ds d Q s rvs e q => by
  unfold tupleD at e
  split at e
  · cases e
    cases rvs with
    | cons r1 r2 =>
      cases r2
      cases r1 with
      | lst h r => exact ⟨_, _, rfl, .inl ⟨.of (s _ _ h), fun p hp => q _ _ _ (Ext.new _ s hp) (.tup upd_same (r.mono (same_upd (s.free hp))))⟩⟩
  · cases e
    cases rvs with
    | cons r1 r2 =>
      cases r2
      cases r1 with
      | tup h r => exact ⟨_, _, rfl, .inr ⟨.of (s _ _ h), q _ _ _ (Ext.refl s) (.tup h r)⟩⟩
  · cases e
theorem listD_of {K : PySem.W.Frag} : CallN K (fun xs H Q => ∃ p ys, xs = [.ref p] ∧ (SqL K H p ys ∨ SqT K H p ys) ∧ ∀ l, H l = none → Q (.ref l) (upd H l (.lst ys))) listD := fun F H vs ds d Q s rvs e q => by
  unfold listD at e
  split at e
  · cases e
    cases rvs with
    | cons r1 r2 =>
      cases r2
      cases r1 with
      | lst h r => exact ⟨_, _, rfl, .inl (.of (s _ _ h)), fun p hp => q p _ hp ⟨_, rfl, r⟩⟩
  · cases e
    cases rvs with
    | cons r1 r2 =>
      cases r2
      cases r1 with
      | tup h r => exact ⟨_, _, rfl, .inr (.of (s _ _ h)), fun p hp => q p _ hp ⟨_, rfl, r⟩⟩
  · cases e
theorem ei_tuple (c : Kx bb X G W k) (hm : X.mg "tuple" = none) (ha : PE X e (tI G W f)) (hg : Gl X "tuple" := by rfl) (he : starEach [e] X.env = (false, eval e X.env) :: starEach [] X.env := by rfl) : PE X (.Call (.Name "tuple" p) [e] [] pos) (tI G W (M.bind (consM f (M.pure [])) fun ds => M.lift (tupleD ds))) :=
  ei_callTD c call_tuple_of tupleD_of hm PyProof.Rows.boot_tuple (ea_cons ha ea_nil he) hg (by decide) (by decide) he rfl
theorem en_list (c : Kx bb X G W k) (hm : X.mg "list" = none) (ha : PE X e (tI G W f)) (hg : Gl X "list" := by rfl) (he : starEach [e] X.env = (false, eval e X.env) :: starEach [] X.env := by rfl) : PE X (.Call (.Name "list" p) [e] [] pos) (tN G W (M.bind (consM f (M.pure [])) fun ds => M.lift (listD ds))) :=
  en_callTN c call_list_of listD_of hm PyProof.Rows.boot_list (ea_cons ha ea_nil he) hg (by decide) (by decide) he rfl
end
end Dn

/-! What is walked; targets; calls of the text's own defs -/
namespace Dn
open PySem PySem.Spec PyProof.Rows L2
section
variable {bb : Bool} {X : Cx} {G : Gx} {W : WX} {k : Nat} {pos p p2 : Pos} {a b c e tg : Expr} {es : List Expr} {fa fb fc f : M D} {fs : M (List D)}

/-! ### what is walked -/
/-- J yields the items ds, each standing for its data -/
def IterOf (K : PySem.W.Frag) (F : Hp) (ds : List D) (J : It) : Prop := ∀ (i : Nat) (Fc Hc : Hp), Same F Fc → Same Fc Hc →
  (∀ d, ds[i]? = some d → J.go i Hc ∧ ∀ x H', J.yld i Hc x H' → ∃ F', Ext Fc Hc F' H' ∧ Rp K F' x d) ∧ (ds.length = i → J.stop i Hc)
def tW (G : Gx) (W : WX) (f : M (List D)) : TI := fun σ H R => ∃ F ρ τ, Rep G F H ρ σ τ ∧ Fin G W F σ τ (fun ds _ F' H' => ∀ J, IterOf G.K F' ds J → R J H') (f ρ)
theorem iter_list {K : PySem.W.Frag} {F : Hp} {a : Addr} {xs : List V} {ds : List D} (h : F a = some (.lst xs)) (r : RpA K F xs ds) : IterOf K F ds (Itl K a) := fun i Fc Hc s1 s2 => by
  have hh : Hc a = some (.lst xs) := s2 _ _ (s1 _ _ h)
  refine ⟨fun d hd => ?_, fun hl => ⟨xs, .of hh, by rw [r.length]; exact Nat.le_of_eq hl⟩⟩
  obtain ⟨v, hv, rv⟩ := r.get hd
  refine ⟨⟨xs, v, .of hh, hv⟩, fun x H' ⟨e, y⟩ => ?_⟩
  subst e
  have e2 : v = x := Option.some.inj (hv.symm.trans (y xs (.of hh)))
  subst e2
  exact ⟨Fc, Ext.refl s2, rv.mono s1⟩
theorem iter_tup {K : PySem.W.Frag} {F : Hp} {a : Addr} {xs : List V} {ds : List D} (h : F a = some (.tup xs)) (r : RpA K F xs ds) : IterOf K F ds (Itt K a) := fun i Fc Hc s1 s2 => by
  have hh : Hc a = some (.tup xs) := s2 _ _ (s1 _ _ h)
  refine ⟨fun d hd => ?_, fun hl => ⟨xs, .of hh, by rw [r.length]; exact Nat.le_of_eq hl⟩⟩
  obtain ⟨v, hv, rv⟩ := r.get hd
  refine ⟨⟨xs, v, .of hh, hv⟩, fun x H' ⟨e, y⟩ => ?_⟩
  subst e
  have e2 : v = x := Option.some.inj (hv.symm.trans (y xs (.of hh)))
  subst e2
  exact ⟨Fc, Ext.refl s2, rv.mono s1⟩
def rangeL (lo : Int) (n : Nat) : List D := (List.range n).map fun (i : Nat) => .int (lo + i)
theorem iter_range {K : PySem.W.Frag} {F : Hp} {lo : Int} {n : Nat} : IterOf K F (rangeL lo n) (Itr lo n) := fun i Fc Hc s1 s2 => by
  refine ⟨fun d hd => ?_, fun hl => ?_⟩
  · unfold rangeL at hd
    have hi : i < n := by
      have := (List.getElem?_eq_some_iff.mp hd).1
      rw [List.length_map, List.length_range] at this
      exact this
    rw [List.getElem?_map, List.getElem?_range hi] at hd
    have hd' : D.int (lo + (i : Int)) = d := Option.some.inj hd
    subst hd'
    exact ⟨hi, fun x H' ⟨e, y⟩ => by subst e; subst y; exact ⟨Fc, Ext.refl s2, .int _⟩⟩
  · unfold rangeL at hl
    rw [List.length_map, List.length_range] at hl
    exact Nat.le_of_eq hl
/-- a list or a tuple, whichever comes -/
def iSeq (K : PySem.W.Frag) (tl : TE) : TI := fun σ H R => tl σ H fun x H1 => ∃ a, x = .ref a ∧ (((∃ xs, SqL K H1 a xs) ∧ R (Itl K a) H1) ∨ ((∃ xs, SqT K H1 a xs) ∧ R (Itt K a) H1))
theorem pi_seq {l : Expr} {tl : TE} (hl : PE X l tl) : PI X tg l (iSeq X.K tl) := ⟨fun pins s σ H R I h => thn (hl.run pins s σ H _ I h) fun v s1 hv => by
  obtain ⟨x, H1, I1, r1, a, ex, q⟩ := hv
  subst ex
  cases r1
  have fresh : ∀ {s' : Shared}, Inv X pins σ H1 s' → ∀ b ∈ [s'.heap.objs.size], FpOk X pins H1 b := fun {s'} I' b hb => by
    rw [List.mem_singleton] at hb
    subst hb
    exact I'.fpOk (Nat.le_refl _) (I'.hok.fresh (Nat.le_refl _))
  rcases q with ⟨⟨xs, hq⟩, q⟩ | ⟨⟨xs, hq⟩, q⟩
  · obtain ⟨its, rv, pl, hz⟩ := I1.list hq
    exact wpAny_pyIter_list pl.isList ⟨_, [s1.heap.objs.size], _, _, H1, rfl, I1.kept (t' := s1.toks) fun b o e => Heap.get?_push_of_some _ e, turn_list a _, ⟨_, Heap.get?_push_size _ rfl, rfl, rfl⟩, fresh I1, q⟩
  · obtain ⟨its, rv, pl, hz⟩ := I1.tuple hq
    exact wpAny_pyIter_tuple (show s1.heap.IsTuple a its.toArray from pl) ⟨_, [s1.heap.objs.size], _, _, H1, rfl, I1.kept (t' := s1.toks) fun b o e => Heap.get?_push_of_some _ e, turn_tuple a _, ⟨_, Heap.get?_push_size _ rfl, rfl, rfl⟩, fresh I1, q⟩⟩
def itemsD : D → Option (List D)
  | .tup l => some l
  | .lst l => some l
  | _ => none
def seqM (f : M D) : M (List D) := M.bind f fun d => M.lift (itemsD d)
theorem ew_seq (c : Kx bb X G W k) (h : PE X e (tI G W f)) : PI X tg e (tW G W (seqM f)) := ⟨fun pins s σ H R I ⟨F, ρ, τ, R0, q⟩ => (pi_seq h).run pins s σ H R I ⟨F, ρ, τ, R0, (Fin.bind q).imp fun d ρ1 F1 H1 s1 R1 q1 v rv => by
  obtain ⟨ds, e, z⟩ := Fin.lift q1
  have z' := z F1 H1 (Same.refl _) R1
  unfold itemsD at e
  split at e
  · cases e
    cases rv with
    | tup h r =>
      refine ⟨_, rfl, .inr ⟨⟨_, .of (R1.sub _ _ h)⟩, ?_⟩⟩
      rw [← c.hK]
      exact z' _ (iter_tup h r)
  · cases e
    cases rv with
    | lst h r =>
      refine ⟨_, rfl, .inl ⟨⟨_, .of (R1.sub _ _ h)⟩, ?_⟩⟩
      rw [← c.hK]
      exact z' _ (iter_list h r)
  · cases e⟩⟩
def rng1 : List D → Option (List D)
  | [.int n] => if -100000 ≤ n ∧ n ≤ 100000 then some (rangeL 0 n.toNat) else none
  | _ => none
def rng2 : List D → Option (List D)
  | [.int a, .int b] => if -100000 ≤ a ∧ a ≤ 100000 ∧ -100000 ≤ b ∧ b ≤ 100000 then some (rangeL a (b - a).toNat) else none
  | _ => none
def rngM (g : List D → Option (List D)) (fs : M (List D)) : M (List D) := M.bind fs fun ds => M.lift (g ds)
theorem ew_range1 (hm : X.mg "range" = none) (ha : PA X [a] (tA G W fs)) (hg : Gl X "range" := by rfl) (hs : starEach [a] X.env = [(false, eval a X.env)] := by rfl) : PI X tg (.Call (.Name "range" p) [a] [] pos) (tW G W (rngM rng1 fs)) :=
  ⟨fun pins s σ H R I ⟨F, ρ, τ, R0, q⟩ => (pi_range1 hg hm ha hs).run pins s σ H R I ⟨F, ρ, τ, R0, (Fin.bind q).imp fun ds ρ1 F1 H1 s1 R1 q1 vs rvs => by
    obtain ⟨l, e, z⟩ := Fin.lift q1
    have z' := z F1 H1 (Same.refl _) R1
    unfold rng1 at e
    split at e
    · rename_i n
      split at e
      · rename_i hn
        cases e
        cases rvs with
        | cons r1 r2 =>
          cases r2
          cases r1
          refine ⟨n, rfl, by omega, by omega, z' _ ?_⟩
          have e1 : (n - 0).toNat = n.toNat := by rw [Int.sub_zero]
          first
            | exact iter_range
            | (rw [e1]; exact iter_range)
      · cases e
    · cases e⟩⟩
theorem ew_range2 (hm : X.mg "range" = none) (ha : PA X [a, b] (tA G W fs)) (hg : Gl X "range" := by rfl) (hs : starEach [a, b] X.env = [(false, eval a X.env), (false, eval b X.env)] := by rfl) (hs2 : starEach [b] X.env = [(false, eval b X.env)] := by rfl) : PI X tg (.Call (.Name "range" p) [a, b] [] pos) (tW G W (rngM rng2 fs)) :=
  ⟨fun pins s σ H R I ⟨F, ρ, τ, R0, q⟩ => (pi_range2 hg hm ha hs hs2).run pins s σ H R I ⟨F, ρ, τ, R0, (Fin.bind q).imp fun ds ρ1 F1 H1 s1 R1 q1 vs rvs => by
    obtain ⟨l, e, z⟩ := Fin.lift q1
    have z' := z F1 H1 (Same.refl _) R1
    unfold rng2 at e
    split at e
    · rename_i i j
      split at e
      · rename_i hn
        cases e
        cases rvs with
        | cons r1 r2 =>
          cases r2 with
          | cons r2 r3 =>
            cases r3
            cases r1
            cases r2
            exact ⟨i, j, rfl, ⟨by omega, by omega, by omega, by omega⟩, z' _ iter_range⟩
      · cases e
    · cases e⟩⟩

/-! ### targets: a name; names in a tuple -/
inductive Tgt where
  | nm (i : Nat)
  | tp (l : List Nat)
def Tgt.is : Tgt → List Nat
  | .nm i => [i]
  | .tp l => l
def setAll : List Nat → List D → Sto → Option Sto
  | [], [], ρ => some ρ
  | i :: is, d :: ds, ρ => setAll is ds (ρ.set i (.val d))
  | _, _, _ => none
def Tgt.set : Tgt → D → Sto → Option Sto
  | .nm i, d, ρ => some (ρ.set i (.val d))
  | .tp l, .tup ds, ρ => setAll l ds ρ
  | _, _, _ => none
theorem wipe_set {σ : L2.St} {i : Nat} {ov : Option V} : ∀ {vs : List Nat}, i ∈ vs → wipe (σ.set i ov) vs = wipe σ vs
  | v :: vs, h => by
    unfold wipe
    by_cases e : i ∈ vs
    · rw [wipe_set e]
    · have e2 : i = v := by
        rcases List.mem_cons.mp h with z | z
        · exact z
        · exact absurd z e
      subst e2
      have : ∀ {vs : List Nat}, i ∉ vs → wipe (σ.set i ov) vs = (wipe σ vs).set i ov := by
        intro vs
        induction vs with
        | nil => intro _; rfl
        | cons w ws ih =>
          intro hn
          rw [List.mem_cons, not_or] at hn
          unfold wipe
          rw [ih hn.2, List.set_comm _ _ hn.1]
      rw [this e, List.set_set]
def tG (G : Gx) (t : Tgt) : TG := fun v σ H Q => ∃ F ρ τ d ρ', Rep G F H ρ σ τ ∧ Rp G.K F v d ∧ t.set d ρ = some ρ' ∧ ∀ σ', Rep G F H ρ' σ' τ → (∀ vs, (∀ i ∈ t.is, i ∈ vs) → wipe σ' vs = wipe σ vs) → Q σ' H
theorem eg_nm {i : Nat} {x : Str} (c : Kx bb X G W k) (hi : X.N[i]? = some x := by rfl) (hx : Loc X.env.scope x := by first | exact Or.inl rfl | exact Or.inr rfl) (hf : X.fn x = true ∨ X.env.scope.names.lookup x = some .local := by first | exact .inl rfl | exact .inr rfl | assumption) : PG X (.Name x pos) (tG G (.nm i)) :=
  ⟨fun pins s σ H v u Q I r ⟨F, ρ, τ, d, ρ', R, rv, e, q⟩ => (pg_name c.nd hi hx hf).run pins s σ H v u Q I r (by
    cases e
    exact q _ (R.setv i rv) fun vs hv => wipe_set (hv i List.mem_cons_self))⟩
def tGs (G : Gx) (l : List Nat) : TGs := fun vs σ H Q => ∃ F ρ τ ds ρ', Rep G F H ρ σ τ ∧ RpA G.K F vs ds ∧ setAll l ds ρ = some ρ' ∧ ∀ σ', Rep G F H ρ' σ' τ → (∀ vs, (∀ i ∈ l, i ∈ vs) → wipe σ' vs = wipe σ vs) → Q σ' H
theorem egs_nil : PGs X [] (tGs G []) := ⟨fun pins s σ H vs us Q I r ⟨F, ρ, τ, ds, ρ', R, rv, e, q⟩ => pgs_nil.run pins s σ H vs us Q I r (by
  cases ds with
  | nil =>
    cases e
    cases rv
    exact ⟨rfl, q σ R fun _ _ => rfl⟩
  | cons _ _ => cases e)⟩
theorem egs_cons {i : Nat} {l : List Nat} {x : Str} {es : List Expr} (c : Kx bb X G W k) (hr : PGs X es (tGs G l)) (hi : X.N[i]? = some x := by rfl) (hx : Loc X.env.scope x := by first | exact Or.inl rfl | exact Or.inr rfl) (hf : X.fn x = true ∨ X.env.scope.names.lookup x = some .local := by first | exact .inl rfl | exact .inr rfl | assumption)
    (hs : (assignEach (.Name x pos :: es) X.env).map (·.2) = assign (.Name x pos) X.env :: (assignEach es X.env).map (·.2) := by rfl) : PGs X (.Name x pos :: es) (tGs G (i :: l)) :=
  ⟨fun pins s σ H vs us Q I r ⟨F, ρ, τ, ds, ρ', R, rv, e, q⟩ => (pgs_cons (eg_nm (i := i) c hi hx hf) hr hs).run pins s σ H vs us Q I r (by
    cases ds with
    | nil => cases e
    | cons d ds =>
      cases rv with
      | cons r1 r2 =>
        refine ⟨_, _, rfl, F, ρ, τ, d, _, R, r1, rfl, fun σ1 R1 w1 => ⟨F, _, τ, ds, ρ', R1, r2, e, fun σ2 R2 w2 => q σ2 R2 fun vs hv => ?_⟩⟩
        rw [w2 vs (fun j hj => hv j (List.mem_cons_of_mem _ hj)), w1 vs (fun j hj => hv j (by rw [List.mem_singleton.mp hj]; exact List.mem_cons_self))])⟩
theorem eg_tup {es : List Expr} {l : List Nat} {kk n : Nat} (c : Kx true X G W k) (h : PGs X es (tGs G l)) (hl : l.length = n := by rfl) (hn : (assignEach es X.env).length = n := by rfl) (hst : (assignEach es X.env).findIdx? (·.1) = none := by rfl) : PG X (.Tuple es kk pos) (tG G (.tp l)) :=
  ⟨fun pins s σ H v u Q I r ⟨F, ρ, τ, d, ρ', R, rv, e, q⟩ => (pg_tup (c.calm rfl) h hn hst).run pins s σ H v u Q I r (by
    cases d with
    | tup ds =>
      cases rv with
      | tup hh rr =>
        have len : ∀ {l : List Nat} {ds : List D} {ρ ρ' : Sto}, setAll l ds ρ = some ρ' → ds.length = l.length := by
          intro l
          induction l with
          | nil => intro ds ρ ρ' h; cases ds with
            | nil => rfl
            | cons _ _ => cases h
          | cons i l ih => intro ds ρ ρ' h; cases ds with
            | nil => cases h
            | cons d ds => rw [List.length_cons, List.length_cons, ih h]
        exact ⟨_, _, rfl, .of (R.sub _ _ hh), by rw [rr.length, len e, hl], F, ρ, τ, ds, ρ', R, rr, e, q⟩
    | _ => cases e)⟩

/-! ### calls of the text's own defs -/
abbrev Den (α : Type) := List D → Option (Except Exn α)
def M.res {α : Type} (o : Option (Except Exn α)) : M α := fun ρ => match o with
  | none => none
  | some (.ok a) => some (.ok a ρ)
  | some (.error e) => some (.exc e ρ)
def nArgs {α : Type} (n : Nat) (den : Den α) : Den α := fun ds => if ds.length = n then den ds else none
/-- a def's promise: on such data it gives this -/
def spD (K : PySem.W.Frag) (ex : Nat → Value) (n : Nat) (den : Den D) : Sp := fun vs H Q E => ∃ F ds, Same F H ∧ RpA K F vs ds ∧ ds.length = n ∧ (match den ds with
  | none => False
  | some (.ok d) => ∀ F' H' v, Ext F H F' H' → Rp K F' v d → Q v H'
  | some (.error e) => ∀ F' H' cls dd, Ext F H F' H' → ExR K ex F' H' e cls dd → E cls dd H')
/-- .. a new object that nothing else knows -/
def spN (K : PySem.W.Frag) (ex : Nat → Value) (n : Nat) (den : Den Co) : Sp := fun vs H Q E => ∃ F ds, Same F H ∧ RpA K F vs ds ∧ ds.length = n ∧ (match den ds with
  | none => False
  | some (.ok c) => ∀ F' H' p o, Ext F H F' H' → H' p = some o → CoR K F' o c → F' p = none → H p = none → Q (.ref p) H'
  | some (.error e) => ∀ F' H' cls dd, Ext F H F' H' → ExR K ex F' H' e cls dd → E cls dd H')
/-- .. the first argument a list that is lent: it is given back with other items -/
def spL (K : PySem.W.Frag) (ex : Nat → Value) (n : Nat) (den : List D → Den (D × List D)) : Sp := fun vs H Q E => ∃ F p rv rs us ds, Same F H ∧ vs = .ref p :: us ∧ H p = some (.lst rv) ∧ F p = none ∧ RpA K F rv rs ∧ RpA K F us ds ∧ ds.length + 1 = n ∧ (match den rs ds with
  | none => False
  | some (.ok (d, rs')) => ∀ F' H' v rv', Same F F' → Same F' H' → (∀ a, F' a ≠ none → F a = none → H a = none) → (∀ a o, a ≠ p → H a = some o → H' a = some o) → F' p = none → H' p = some (.lst rv') → RpA K F' rv' rs' → Rp K F' v d → Q v H'
  | some (.error _) => False)
/-- a def that stands: where it is, and what it promises (bb: where nothing is handled; else: in an except suite) -/
structure Df (bb : Bool) (P : Program) (w : World) (K : PySem.W.Frag) (mg : Str → Option Value) (base : Heap) (x : Str) (n k : Nat) (sp : Sp) : Prop where
  ex : ∃ f fd ps, (bb = true → FnOk P w K mg base (L2N.CX P w) k f fd ps sp) ∧ (bb = false → L2H.FnH P w K mg base (L2N.CX P w) k f fd ps sp) ∧ ps.length = n ∧ mg x = some (.ref f) ∧ PySem.W.keepIn K (.ref f) = true ∧ Binds K fd ps []
def callM {α : Type} (n : Nat) (den : Den α) (fs : M (List D)) : M α := M.bind fs fun ds => M.res (nArgs n den ds)
variable {x : Str} {n j : Nat}
theorem pe_df {sp : Sp} {ta : TA} (c : Kx bb X G W k) (D : Df bb X.prog X.w X.K X.mg X.base x n j sp) (ha : PA X (e :: es) ta) (hj : j ≤ k) (hg : Gl X x) (hdb : (x == ("__debug__" : Str)) = false)
    (he : starEach (e :: es) X.env = (false, eval e X.env) :: starEach es X.env) (hpl : (backTo pos (starEach es X.env)).any (·.1) = false) : PE X (.Call (.Name x p) (e :: es) [] pos) (tCallS sp (WE W) ta) := by
  obtain ⟨f, fd, ps, h1, h1', h2, h3, h4, h5⟩ := D.ex
  cases bb with
  | true => exact pe_callS (h1 rfl) ((c.hr rfl).mono hj) hg h3 h4 h5 (fun σ => L2N.passAt c.tk σ) ha hdb he hpl
  | false => exact L2H.pe_callH (h1' rfl) ((c.hot rfl).2.mono hj) (c.hot rfl).1 hg h3 h4 h5 (fun σ => L2N.passAt c.tk σ) ha hdb he hpl
theorem tCallS_D {den : Den D} {ex : Nat → Value} (he : G.ex = ex) : ∀ σ H Q, tI G W (callM n den fs) σ H Q → tCallS (spD G.K ex n den) (WE W) (tA G W fs) σ H Q := fun σ H Q ⟨F, ρ, τ, R, q⟩ => ⟨F, ρ, τ, R, (Fin.bind q).imp fun ds ρ1 F1 H1 s1 R1 q1 vs rvs => by
  subst he
  unfold nArgs at q1
  by_cases hl : ds.length = n
  · rw [if_pos hl] at q1
    refine ⟨F1, ds, R1.sub, rvs, hl, ?_⟩
    match z : den ds with
    | none => rw [z] at q1; exact q1.elim
    | some (.ok d) => rw [z] at q1; exact fun F' H' v ex rv => q1 F' H' ex.f (R1.ext ex) v rv
    | some (.error er) => rw [z] at q1; exact fun F' H' cls dd ex hx => q1 F' H' cls dd ex.f (R1.ext ex) hx
  · rw [if_neg hl] at q1
    exact q1.elim⟩
theorem tCallS_N {den : Den Co} {ex : Nat → Value} (he : G.ex = ex) : ∀ σ H Q, tN G W (callM n den fs) σ H Q → tCallS (spN G.K ex n den) (WE W) (tA G W fs) σ H Q := fun σ H Q ⟨F, ρ, τ, R, q⟩ => ⟨F, ρ, τ, R, (Fin.bind q).imp fun ds ρ1 F1 H1 s1 R1 q1 vs rvs => by
  subst he
  unfold nArgs at q1
  by_cases hl : ds.length = n
  · rw [if_pos hl] at q1
    refine ⟨F1, ds, R1.sub, rvs, hl, ?_⟩
    match z : den ds with
    | none => rw [z] at q1; exact q1.elim
    | some (.ok d) => rw [z] at q1; exact fun F' H' p o ex hp hc hF h0 => q1 F' H' ex.f (R1.ext ex) p ⟨o, hp, hc, hF, R1.new_0 h0, R1.free_new h0, R1.new_tmp h0⟩
    | some (.error er) => rw [z] at q1; exact fun F' H' cls dd ex hx => q1 F' H' cls dd ex.f (R1.ext ex) hx
  · rw [if_neg hl] at q1
    exact q1.elim⟩
theorem ei_call {den : Den D} {ex : Nat → Value} (c : Kx bb X G W k) (D : Df bb X.prog X.w X.K X.mg X.base x n j (spD X.K ex n den)) (ha : PA X (e :: es) (tA G W fs)) (hex : G.ex = ex := by rfl) (hj : j ≤ k := by decide) (hg : Gl X x := by rfl) (hdb : (x == ("__debug__" : Str)) = false := by decide)
    (he : starEach (e :: es) X.env = (false, eval e X.env) :: starEach es X.env := by rfl) (hpl : (backTo pos (starEach es X.env)).any (·.1) = false := by rfl) : PE X (.Call (.Name x p) (e :: es) [] pos) (tI G W (callM n den fs)) := by
  refine PE.imp (pe_df c D ha hj hg hdb he hpl) ?_
  rw [← c.hK]
  exact tCallS_D hex
theorem en_call {den : Den Co} {ex : Nat → Value} (c : Kx bb X G W k) (D : Df bb X.prog X.w X.K X.mg X.base x n j (spN X.K ex n den)) (ha : PA X (e :: es) (tA G W fs)) (hex : G.ex = ex := by rfl) (hj : j ≤ k := by decide) (hg : Gl X x := by rfl) (hdb : (x == ("__debug__" : Str)) = false := by decide)
    (he : starEach (e :: es) X.env = (false, eval e X.env) :: starEach es X.env := by rfl) (hpl : (backTo pos (starEach es X.env)).any (·.1) = false := by rfl) : PE X (.Call (.Name x p) (e :: es) [] pos) (tN G W (callM n den fs)) := by
  refine PE.imp (pe_df c D ha hj hg hdb he hpl) ?_
  rw [← c.hK]
  exact tCallS_N hex
/-- the first argument a name's own list, lent -/
def lend (i : Nat) (ds : List D) (den : List D → Den (D × List D)) : M D := fun ρ => match ρ[i]? with
  | some (.own b (.lst rs)) => match den rs ds with
    | some (.ok (d, rs')) => some (.ok d (ρ.set i (.own b (.lst rs'))))
    | _ => none
  | _ => none
def lendM (i n : Nat) (den : List D → Den (D × List D)) (fs : M (List D)) : M D := M.bind (pk i) fun _ => M.bind fs fun ds => if ds.length + 1 = n then lend i ds den else fun _ => none
theorem ei_lend {i : Nat} {y : Str} {den : List D → Den (D × List D)} {ex : Nat → Value} (c : Kx bb X G W k) (Dd : Df bb X.prog X.w X.K X.mg X.base x n j (spL X.K ex n den)) (ha : PA X es (tA G W fs)) (hN : X.N[i]? = some y := by rfl) (hj : j ≤ k := by decide) (hv : Vis X.env.scope y := by first | exact Or.inl rfl | exact Or.inr (Or.inl rfl) | exact Or.inr (Or.inr rfl)) (hg : Gl X x := by rfl) (hdb : (x == ("__debug__" : Str)) = false := by decide)
    (he : starEach (.Name y p2 :: es) X.env = (false, eval (.Name y p2) X.env) :: starEach es X.env := by rfl) (hpl : (backTo pos (starEach es X.env)).any (·.1) = false := by rfl) (hd : (y == ("__debug__" : Str)) = false := by decide)
    (hcd : (y == ("__classdict__" : Str)) = false := by decide) : PE X (.Call (.Name x p) (.Name y p2 :: es) [] pos) (tI G W (lendM i n den fs)) := by
  refine PE.imp (pe_df c Dd (pa_cons (pe_var hN hv hd hcd) ha he) hj hg hdb he hpl) ?_
  rw [← c.hK]
  rintro σ H Q ⟨F, ρ, τ, R, q⟩
  obtain ⟨v, e1, R0, q0⟩ : ∃ v, σ[i]? = some (some v) ∧ Rep G F H ρ σ τ ∧ Fin G W F σ τ (fun d _ F' H' => ∀ v, Rp G.K F' v d → Q v H') (M.bind fs (fun ds => if ds.length + 1 = n then lend i ds den else fun _ => none) ρ) := by
    have q1 := Fin.bind q
    unfold Dn.pk at q1
    split at q1
    · rename_i s e
      cases z : s.d? with
      | none => rw [z] at q1; exact q1.elim
      | some d =>
        rw [z] at q1
        obtain ⟨v, e1, _⟩ := R.pk e z
        exact ⟨v, e1, R, q1 F H (Same.refl F) R⟩
    · exact q1.elim
  refine ⟨v, e1, F, ρ, τ, R0, (Fin.bind q0).imp fun ds ρ1 F1 H1 s1 R1 q1 vs rvs => ?_⟩
  by_cases hl : ds.length + 1 = n
  · rw [if_pos hl] at q1
    unfold lend at q1
    split at q1
    · rename_i b rs hb
      obtain ⟨a, o, g1, g2, ⟨rv, g3, g4⟩, g5, g6⟩ := R1.own hb
      subst g3
      have ev : v = .ref a := Option.some.inj (Option.some.inj (e1.symm.trans g1))
      subst ev
      refine ⟨F1, a, rv, rs, vs, ds, R1.sub, rfl, g2, g5, g4, rvs, hl, ?_⟩
      match z : den rs ds with
      | none => rw [z] at q1; exact q1.elim
      | some (.error er) => rw [z] at q1; exact q1.elim
      | some (.ok (d, rs')) =>
        rw [z] at q1
        intro F' H' w rv' k1 k2 k3 k4 k5 k6 k7 k8
        -- the heap with the list as it was, then written
        let Hm : Hp := fun x => if x = a then some (.lst rv) else H' x
        have am : Hm a = some (.lst rv) := if_pos rfl
        have nm : ∀ {x : Addr}, x ≠ a → Hm x = H' x := fun h => if_neg h
        have ext : Ext F1 H1 F' Hm := by
          refine ⟨k1, fun x o e => ?_, fun x o e => ?_, k3⟩
          · by_cases hx : x = a
            · subst hx
              rw [g2] at e
              rw [am]; exact e
            · rw [nm hx]; exact k4 x o hx e
          · have hx : x ≠ a := fun h => by rw [h, k5] at e; cases e
            rw [nm hx]; exact k2 x o e
        have R2 := (R1.ext ext).write (o := .lst rv') (c' := .lst rs') hb g1 ⟨rv', rfl, k7⟩
        have eH : upd Hm a (.lst rv') = H' := by
          funext x
          by_cases hx : x = a
          · subst hx; rw [upd_same, k6]
          · rw [upd_ne hx, nm hx]
        rw [eH] at R2
        exact q1 F' H' k1 R2 w k8
    · exact q1.elim
  · rw [if_neg hl] at q1
    exact q1.elim
end
end Dn

/-! Statements -/
namespace Dn
open PySem PySem.Spec PyProof.Rows L2

inductive Out where
  | nx
  | ret (d : D)
  | retN (c : Co)
  | bk
  | ct
def FinS (G : Gx) (W : WX) (F : Hp) (τ : Tmp) (E : Ends) : Option (Res Out) → Prop
  | none => False
  | some (.ok .nx ρ') => ∀ F' H' σ', Same F F' → Rep G F' H' ρ' σ' τ → E.nx σ' H'
  | some (.ok (.ret d) ρ') => ∀ F' H' σ' v, Same F F' → Rep G F' H' ρ' σ' τ → Rp G.K F' v d → E.rt v H'
  | some (.ok (.retN c) ρ') => ∀ F' H' σ' p, Same F F' → Rep G F' H' ρ' σ' τ → Fresh G F' H' [] σ' τ c p → E.rt (.ref p) H'
  | some (.ok .bk ρ') => ∀ F' H' σ', Same F F' → Rep G F' H' ρ' σ' τ → E.bk σ' H'
  | some (.ok .ct ρ') => ∀ F' H' σ', Same F F' → Rep G F' H' ρ' σ' τ → E.ct σ' H'
  | some (.exc e ρ') => ∀ F' H' σ' cls dd, Same F F' → Rep G F' H' ρ' σ' τ → ExR G.K G.ex F' H' e cls dd → W cls dd σ' H'
def tS (G : Gx) (W : WX) (g : M Out) : TS := fun E σ H => ∃ F ρ τ, Rep G F H ρ σ τ ∧ FinS G W F τ E (g ρ)
section
variable {bb : Bool} {X : Cx} {G : Gx} {W : WX} {k : Nat} {pos p p2 p3 p4 : Pos} {a b c e : Expr} {es : List Expr} {fa fb fc f : M D} {fs : M (List D)} {g h : M Out} {st : Stmt} {rest : List Stmt}
theorem FinS.mono {F F' : Hp} {τ : Tmp} {E : Ends} {r : Option (Res Out)} (s : Same F F') (q : FinS G W F τ E r) : FinS G W F' τ E r := by
  match r, q with
  | some (.ok .nx ρ'), q => exact fun F2 H2 σ' s2 R => q F2 H2 σ' (s.trans s2) R
  | some (.ok (.ret d) ρ'), q => exact fun F2 H2 σ' v s2 R => q F2 H2 σ' v (s.trans s2) R
  | some (.ok (.retN d) ρ'), q => exact fun F2 H2 σ' v s2 R => q F2 H2 σ' v (s.trans s2) R
  | some (.ok .bk ρ'), q => exact fun F2 H2 σ' s2 R => q F2 H2 σ' (s.trans s2) R
  | some (.ok .ct ρ'), q => exact fun F2 H2 σ' s2 R => q F2 H2 σ' (s.trans s2) R
  | some (.exc e ρ'), q => exact fun F2 H2 σ' cls dd s2 R => q F2 H2 σ' cls dd (s.trans s2) R
/-- an expression's run within a statement -/
theorem FinS.bind {α : Type} {m : M α} {kk : α → M Out} {F : Hp} {ρ : Sto} {σ : L2.St} {τ : Tmp} {E : Ends} (q : FinS G W F τ E (M.bind m kk ρ)) : Fin G W F σ τ (fun b ρ1 F1 _ => FinS G W F1 τ E (kk b ρ1)) (m ρ) := by
  unfold M.bind at q
  match z : m ρ with
  | none => rw [z] at q; exact q
  | some (.exc e ρ') =>
    rw [z] at q
    exact fun F' H' cls dd s R x => q F' H' σ cls dd s R x
  | some (.ok b ρ') =>
    rw [z] at q
    intro F1 H1 s R
    exact FinS.mono s q

/-! ### blocks, small statements -/
def seqS (g h : M Out) : M Out := M.bind g fun o => match o with
  | .nx => h
  | o => M.pure o
theorem es_nil : PSs X [] (tS G W (M.pure .nx)) := PSs.imp pss_nil fun E σ H ⟨F, ρ, τ, R, q⟩ => q F H σ (Same.refl F) R
theorem es_one (h1 : PS X st (tS G W g)) : PSs X [st] (tS G W g) := pss_one h1
theorem es_cons (h1 : PS X st (tS G W g)) (h2 : PSs X rest (tS G W h)) : PSs X (st :: rest) (tS G W (seqS g h)) := PSs.imp (pss_cons h1 h2) fun E σ H ⟨F, ρ, τ, R, q⟩ => by
  refine ⟨F, ρ, τ, R, ?_⟩
  unfold seqS M.bind at q
  match z : g ρ with
  | none => rw [z] at q; exact q
  | some (.exc e ρ') => rw [z] at q; exact q
  | some (.ok .nx ρ') =>
    rw [z] at q
    exact fun F' H' σ' s R' => ⟨F', ρ', τ, R', FinS.mono s q⟩
  | some (.ok (.ret d) ρ') => rw [z] at q; exact q
  | some (.ok (.retN c) ρ') => rw [z] at q; exact q
  | some (.ok .bk ρ') => rw [z] at q; exact q
  | some (.ok .ct ρ') => rw [z] at q; exact q
theorem es_pass : PS X (.Pass pos) (tS G W (M.pure .nx)) := PS.imp ps_pass fun E σ H ⟨F, ρ, τ, R, q⟩ => q F H σ (Same.refl F) R
theorem es_break : PS X (.Break pos) (tS G W (M.pure .bk)) := PS.imp ps_break fun E σ H ⟨F, ρ, τ, R, q⟩ => q F H σ (Same.refl F) R
theorem es_continue : PS X (.Continue pos) (tS G W (M.pure .ct)) := PS.imp ps_continue fun E σ H ⟨F, ρ, τ, R, q⟩ => q F H σ (Same.refl F) R
/-- what is never come to -/
def neverM : M Out := fun _ => none
theorem es_never : PS X st (tS G W neverM) := PS.imp ps_never fun E σ H ⟨F, ρ, τ, R, q⟩ => q.elim
theorem es_doc {x : Str} {j : Nat} : PS X (.Expr (.Constant (.str x) j pos) p) (tS G W (M.pure .nx)) := PS.imp ps_doc fun E σ H ⟨F, ρ, τ, R, q⟩ => q F H σ (Same.refl F) R
def dropM (f : M D) : M Out := M.bind f fun _ => M.pure .nx
theorem es_expr (h : PE X e (tI G W f)) (hs : swapsWith e none pos.line X.env = pure false := by rfl) : PS X (.Expr e pos) (tS G W (dropM f)) := PS.imp (ps_expr h hs) fun E σ H ⟨F, ρ, τ, R, q⟩ => ⟨F, ρ, τ, R, (FinS.bind q).imp fun d ρ1 F1 H1 s1 R1 q1 v rv => q1 F1 H1 σ (Same.refl _) R1⟩
def retM (f : M D) : M Out := M.bind f fun d => M.pure (.ret d)
theorem es_ret (h : PE X e (tI G W f)) : PS X (.Return (some e) pos) (tS G W (retM f)) := PS.imp (ps_ret h) fun E σ H ⟨F, ρ, τ, R, q⟩ => ⟨F, ρ, τ, R, (FinS.bind q).imp fun d ρ1 F1 H1 s1 R1 q1 v rv => q1 F1 H1 σ v (Same.refl _) R1 rv⟩
theorem es_retNone : PS X (.Return none pos) (tS G W (M.pure (.ret .non))) := PS.imp ps_retN fun E σ H ⟨F, ρ, τ, R, q⟩ => q F H σ .non (Same.refl _) R .non
/-- a fresh object is handed back -/
def retNM (f : M Co) : M Out := M.bind f fun c => M.pure (.retN c)
theorem es_retN {f : M Co} (h : PE X e (tN G W f)) : PS X (.Return (some e) pos) (tS G W (retNM f)) := PS.imp (ps_ret h) fun E σ H ⟨F, ρ, τ, R, q⟩ => ⟨F, ρ, τ, R, (FinS.bind q).imp fun d ρ1 F1 H1 s1 R1 q1 p ⟨o, f1, f2, f3, f4, _, f6⟩ => q1 F1 H1 σ p (Same.refl _) R1 ⟨o, f1, f2, f3, f4, fun i s h => by simp at h, f6⟩⟩
/-- .. that a name owns -/
def retOwn (i : Nat) : M Out := fun ρ => match ρ[i]? with
  | some (.own false c) => some (.ok (.retN c) ρ)
  | _ => none
theorem es_retOwn {i : Nat} {x : Str} (hN : X.N[i]? = some x := by rfl) (hv : Vis X.env.scope x := by first | exact Or.inl rfl | exact Or.inr (Or.inl rfl) | exact Or.inr (Or.inr rfl)) (hd : (x == ("__debug__" : Str)) = false := by decide)
    (hcd : (x == ("__classdict__" : Str)) = false := by decide) : PS X (.Return (some (.Name x p)) pos) (tS G W (retOwn i)) := PS.imp (ps_ret (pe_var hN hv hd hcd)) fun E σ H ⟨F, ρ, τ, R, q⟩ => by
  unfold retOwn at q
  split at q
  · rename_i c e
    obtain ⟨a, o, g1, g2, g3, g4, g5⟩ := R.own e
    refine ⟨_, g1, q F H σ a (Same.refl _) R ⟨o, g2, g3, g4, g5, fun i s h => by simp at h, fun hm => ?_⟩⟩
    obtain ⟨t, ht, et⟩ := List.mem_map.mp hm
    obtain ⟨_, _, _, k4⟩ := R.tmp t ht
    exact k4 i _ e rfl (by rw [g1, et])
  · exact q.elim
def ifM (t : M Bool) (g h : M Out) : M Out := M.bind t fun k => if k then g else h
theorem es_if {t : M Bool} {l r : List Stmt} (hc : PT X c (tT G W t)) (ha : PSs X l (tS G W g)) (hb : PSs X r (tS G W h)) : PS X (.If c l r pos) (tS G W (ifM t g h)) := PS.imp (ps_if hc ha hb) fun E σ H ⟨F, ρ, τ, R, q⟩ => ⟨F, ρ, τ, R, (FinS.bind q).imp fun d ρ1 F1 H1 s1 R1 q1 => by
  cases d with
  | true => exact iteT ⟨F1, ρ1, τ, R1, q1⟩
  | false => exact iteF ⟨F1, ρ1, τ, R1, q1⟩⟩

/-! ### assignments -/
def setM (i : Nat) (f : M D) : M Out := M.bind f fun d => fun ρ => some (.ok .nx (ρ.set i (.val d)))
def ownM (i : Nat) (f : M Co) : M Out := M.bind f fun c => fun ρ => some (.ok .nx (ρ.set i (.own false c)))
theorem es_set {i : Nat} {x : Str} (cx : Kx bb X G W k) (h : PE X e (tI G W f)) (hi : X.N[i]? = some x := by rfl) (hx : Loc X.env.scope x := by first | exact Or.inl rfl | exact Or.inr rfl) (hs : swapsWith e (some (.Name x p)) pos.line X.env = pure false := by rfl) (hf : X.fn x = true ∨ X.env.scope.names.lookup x = some .local := by first | exact .inl rfl | exact .inr rfl | assumption) :
    PS X (.Assign [.Name x p] e pos) (tS G W (setM i f)) := PS.imp (ps_set (i := i) cx.nd hi hx h hs hf) fun E σ H ⟨F, ρ, τ, R, q⟩ => ⟨F, ρ, τ, R, (FinS.bind q).imp fun d ρ1 F1 H1 s1 R1 q1 v rv => q1 F1 H1 _ (Same.refl _) (R1.setv i rv)⟩
theorem es_own {i : Nat} {x : Str} {f : M Co} (cx : Kx bb X G W k) (h : PE X e (tN G W f)) (hi : X.N[i]? = some x := by rfl) (hx : Loc X.env.scope x := by first | exact Or.inl rfl | exact Or.inr rfl) (hs : swapsWith e (some (.Name x p)) pos.line X.env = pure false := by rfl) (hf : X.fn x = true ∨ X.env.scope.names.lookup x = some .local := by first | exact .inl rfl | exact .inr rfl | assumption) :
    PS X (.Assign [.Name x p] e pos) (tS G W (ownM i f)) := PS.imp (ps_set (i := i) cx.nd hi hx h hs hf) fun E σ H ⟨F, ρ, τ, R, q⟩ => ⟨F, ρ, τ, R, (FinS.bind q).imp fun d ρ1 F1 H1 s1 R1 q1 p ⟨o, f1, f2, f3, f4, f5, f6⟩ => q1 F1 H1 _ (Same.refl _) (R1.seto i f1 f2 f3 f4 f5 f6)⟩
/-- a, b, .. = e: names in a tuple -/
def tgtM (t : Tgt) (f : M D) : M Out := M.bind f fun d => fun ρ => (t.set d ρ).map fun ρ' => .ok .nx ρ'
theorem es_tgt {t : Tgt} {tg : Expr} (h : PE X e (tI G W f)) (hg : PG X tg (tG G t)) (hs : swapsWithSole [tg] e pos.line X.env = pure false := by rfl) (hw : swappedStores [tg] e X.env = pure none := by rfl)
    (h1 : (assignEach [tg] X.env).map (·.2) = [assign tg X.env] := by rfl) : PS X (.Assign [tg] e pos) (tS G W (tgtM t f)) := PS.imp (ps_asg h hg hs hw h1) fun E σ H ⟨F, ρ, τ, R, q⟩ => ⟨F, ρ, τ, R, (FinS.bind q).imp fun d ρ1 F1 H1 s1 R1 q1 v rv => by
  cases z : t.set d ρ1 with
  | none => rw [z] at q1; exact q1.elim
  | some ρ2 =>
    rw [z] at q1
    exact ⟨F1, ρ1, τ, d, ρ2, R1, rv, z, fun σ' R2 _ => q1 F1 H1 σ' (Same.refl _) R2⟩⟩
/-- values and fresh objects in a row -/
inductive VC where
  | v (d : D)
  | c (c : Co)
def VC.slot : VC → Slot
  | .v d => .val d
  | .c c => .own false c
/-- the slots i, j, .. get them -/
def setVC : List (Nat × VC) → Sto → Sto
  | [], ρ => ρ
  | (i, x) :: r, ρ => setVC r (ρ.set i x.slot)
/-- one part of a row: a value, or a fresh object -/
inductive Pt where
  | v (f : M D)
  | c (f : M Co)
def Pt.run : Pt → M VC
  | .v f => M.map f VC.v
  | .c f => M.map f VC.c
def PtOk (X : Cx) (G : Gx) (W : WX) (e : Expr) : Pt → Prop
  | .v f => PE X e (tI G W f)
  | .c f => PE X e (tN G W f)
def Pt.t (G : Gx) (W : WX) : Pt → TE
  | .v f => tI G W f
  | .c f => tN G W f
theorem PtOk.pe {P : Pt} (h : PtOk X G W e P) : PE X e (P.t G W) := by cases P <;> exact h
def par2 (i j : Nat) (P Q : Pt) : M Out := M.bind P.run fun x => M.bind Q.run fun y => fun ρ => some (.ok .nx ((ρ.set i x.slot).set j y.slot))
/-- a part's run: v is what it gives; a fresh one is held as a temporary -/
def VcR (G : Gx) (F H : Hp) (ρ : Sto) (σ : L2.St) (τ : Tmp) (v : V) : VC → Tmp → Prop
  | .v d, τ' => τ' = τ ∧ Rp G.K F v d
  | .c c, τ' => ∃ p o, v = .ref p ∧ τ' = (p, o) :: τ ∧ CoR G.K F o c
theorem pt_run {P : Pt} {F H : Hp} {ρ : Sto} {σ : L2.St} {τ : Tmp} {Z : VC → Sto → Hp → Hp → Prop} {Q : VK} (R : Rep G F H ρ σ τ) (q : Fin G W F σ τ Z (P.run ρ))
    (hq : ∀ x ρ1 F1 H1 v τ1, Same F F1 → Rep G F1 H1 ρ1 σ τ → Z x ρ1 F1 H1 → Rep G F1 H1 ρ1 σ τ1 → VcR G F1 H1 ρ1 σ τ v x τ1 → Q v H1) : P.t G W σ H Q := by
  cases P with
  | v f => exact ⟨F, ρ, τ, R, (Fin.bind q).imp fun d ρ1 F1 H1 s1 R1 q1 v rv => hq _ ρ1 F1 H1 v τ s1 R1 (Fin.pure q1 F1 H1 (Same.refl _) R1) R1 ⟨rfl, rv⟩⟩
  | c f => exact ⟨F, ρ, τ, R, (Fin.bind q).imp fun d ρ1 F1 H1 s1 R1 q1 p ⟨o, f1, f2, f3, f4, f5, f6⟩ => hq _ ρ1 F1 H1 (.ref p) ((p, o) :: τ) s1 R1 (Fin.pure q1 F1 H1 (Same.refl _) R1) (R1.push f1 f3 f4 f5 f6) ⟨p, o, rfl, rfl, f2⟩⟩
theorem VcR.mono {F F' H H' : Hp} {ρ ρ' : Sto} {σ : L2.St} {τ τ' : Tmp} {v : V} {x : VC} (s : Same F F') (h : VcR G F H ρ σ τ v x τ') : VcR G F' H' ρ' σ τ v x τ' := by
  cases x with
  | v d => exact ⟨h.1, h.2.mono s⟩
  | c c =>
    obtain ⟨p, o, h1, h2, h3⟩ := h
    exact ⟨p, o, h1, h2, h3.mono s⟩
/-- it is stored -/
theorem VcR.store {F H : Hp} {ρ : Sto} {σ : L2.St} {τ τ' : Tmp} {v : V} {x : VC} (h : VcR G F H ρ σ τ v x τ') (R : Rep G F H ρ σ τ') (i : Nat) : Rep G F H (ρ.set i x.slot) (σ.set i (some v)) τ := by
  cases x with
  | v d =>
    obtain ⟨rfl, r⟩ := h
    exact R.setv i r
  | c c =>
    obtain ⟨p, o, rfl, rfl, r⟩ := h
    obtain ⟨R0, g1, g2, g3, g4, g5⟩ := R.pop
    exact R0.seto i g1 r g2 g3 g4 g5
theorem VcR.under {F H : Hp} {ρ : Sto} {σ : L2.St} {τ τ1 τ2 : Tmp} {v : V} {x : VC} (h : VcR G F H ρ σ τ1 v x τ2) (i : Nat) {y : VC} {w : V} (hy : VcR G F H ρ σ τ w y τ1) (R : Rep G F H ρ σ τ2) (j : Nat) (hij : i ≠ j) :
    Rep G F H ((ρ.set i y.slot).set j x.slot) ((σ.set i (some w)).set j (some v)) τ := by
  have R1 := h.store R j
  have R2 := (hy.mono (H' := H) (ρ' := ρ.set j x.slot) (Same.refl F)).store (σ := σ.set j (some v)) (by
    exact R1) i
  rw [List.set_comm _ _ hij, List.set_comm _ _ hij]
  exact R2
theorem tPar_of {i j : Nat} {P Q : Pt} {a b : Expr} {X : Cx} {t : TA} (hij : i ≠ j) (ht : ∀ σ H Qq, P.t G W σ H (fun v H1 => Q.t G W σ H1 fun w H2 => Qq [v, w] H2) → t σ H Qq) : ∀ E σ H, tS G W (par2 i j P Q) E σ H → tPar i j t E σ H := fun E σ H ⟨F, ρ, τ, R, q⟩ => ht σ H _ <| by
    refine pt_run R (FinS.bind q) fun xx ρ1 F1 H1 v τ1 s1 R1 q1 R1' hv => ?_
    have q1' : FinS G W F1 τ E (M.bind Q.run (fun y => fun ρ => some (.ok .nx ((ρ.set i xx.slot).set j y.slot))) ρ1) := q1
    -- the second is run with the first one held: FinS does not see the temporaries but at its end
    have q2 : Fin G W F1 σ τ1 (fun yy ρ2 F2 _ => FinS G W F2 τ E (some (.ok .nx ((ρ2.set i xx.slot).set j yy.slot)))) (Q.run ρ1) := by
      unfold M.bind at q1'
      match z : Q.run ρ1 with
      | none => rw [z] at q1'; exact q1'
      | some (.exc e ρ') =>
        rw [z] at q1'
        intro F' H' cls dd s R2 xr
        refine q1' F' H' σ cls dd s ?_ xr
        cases xx with
        | v d => obtain ⟨rfl, _⟩ := hv; exact R2
        | c c => obtain ⟨p, o, _, rfl, _⟩ := hv; exact R2.pop.1
      | some (.ok yy ρ2) =>
        rw [z] at q1'
        exact fun F2 H2 s R2 => FinS.mono s q1'
    refine pt_run R1' q2 fun yy ρ2 F2 H2 w τ2 s2 R2 q3 R2' hw2 => ?_
    exact ⟨v, w, rfl, q3 F2 H2 _ (Same.refl _) (hw2.under i (hv.mono s2) R2' j hij)⟩
theorem es_par2 {i j : Nat} {x y : Str} {P Q : Pt} {px py pt pt2 : Pos} {kt k2 : Nat} (cx : Kx true X G W k) (ha : PtOk X G W a P) (hb : PtOk X G W b Q) (hi : X.N[i]? = some x := by rfl) (hj : X.N[j]? = some y := by rfl) (hij : i ≠ j := by decide)
    (hx : X.env.scope.names.lookup x = some .local := by rfl) (hy : X.env.scope.names.lookup y = some .local := by rfl) (h1 : starEach [a, b] X.env = (false, eval a X.env) :: starEach [b] X.env := by rfl) (h2 : starEach [b] X.env = (false, eval b X.env) :: starEach [] X.env := by rfl)
    (hw : swappedStores [.Tuple [.Name x px, .Name y py] kt pt] (.Tuple [a, b] k2 pt2) X.env = pure (some [x, y]) := by rfl)
    (hs : swapsWithSole [.Tuple [.Name x px, .Name y py] kt pt] (.Tuple [a, b] k2 pt2) pos.line X.env = pure false := by rfl) :
    PS X (.Assign [.Tuple [.Name x px, .Name y py] kt pt] (.Tuple [a, b] k2 pt2) pos) (tS G W (par2 i j P Q)) :=
  PS.imp (ps_par (cx.calm rfl) cx.nd hi hj hij hx hy (pa_cons ha.pe (pa_cons hb.pe pa_nil h2) h1) hw hs) (tPar_of (X := X) (a := a) (b := b) hij fun σ H Qq h => h)
def par3 (i j l : Nat) (P Q S : Pt) : M Out := M.bind P.run fun x => M.bind Q.run fun y => M.bind S.run fun z => fun ρ => some (.ok .nx (((ρ.set i x.slot).set j y.slot).set l z.slot))
/-- the rest of a row, run with what came before held -/
theorem fin_under {α : Type} {xx : VC} {F1 H1 : Hp} {ρ1 : Sto} {σ : L2.St} {τ τ1 : Tmp} {v : V} {E : Ends} {m : M α} {kk : α → M Out} (hv : VcR G F1 H1 ρ1 σ τ v xx τ1) (q : FinS G W F1 τ E (M.bind m kk ρ1)) :
    Fin G W F1 σ τ1 (fun yy ρ2 F2 _ => FinS G W F2 τ E (kk yy ρ2)) (m ρ1) := by
  unfold M.bind at q
  match z : m ρ1 with
  | none => rw [z] at q; exact q
  | some (.exc e ρ') =>
    rw [z] at q
    intro F' H' cls dd s R2 xr
    refine q F' H' σ cls dd s ?_ xr
    cases xx with
    | v d => obtain ⟨rfl, _⟩ := hv; exact R2
    | c c => obtain ⟨p, o, _, rfl, _⟩ := hv; exact R2.pop.1
  | some (.ok yy ρ2) =>
    rw [z] at q
    exact fun F2 H2 s R2 => FinS.mono s q
theorem fin_down {α : Type} {xx : VC} {F1 H1 F3 H3 : Hp} {ρ1 ρ3 : Sto} {σ : L2.St} {τ τ1 : Tmp} {v : V} {r : Option (Res α)} {Z : α → Sto → Hp → Hp → Prop} (hv : VcR G F1 H1 ρ1 σ τ v xx τ1) (q : Fin G W F3 σ τ Z r) : Fin G W F3 σ τ1 Z r := by
  match r, q with
  | some (.ok a ρ'), q =>
    intro F' H' s R
    refine q F' H' s ?_
    cases xx with
    | v d => obtain ⟨rfl, _⟩ := hv; exact R
    | c c => obtain ⟨p, o, _, rfl, _⟩ := hv; exact R.pop.1
  | some (.exc e ρ'), q =>
    intro F' H' cls dd s R
    refine q F' H' cls dd s ?_
    cases xx with
    | v d => obtain ⟨rfl, _⟩ := hv; exact R
    | c c => obtain ⟨p, o, _, rfl, _⟩ := hv; exact R.pop.1
theorem es_par3 {i j l : Nat} {x y z : Str} {P Q S : Pt} {px py pz pt pt2 : Pos} {kt k2 : Nat} (cx : Kx true X G W k) (ha : PtOk X G W a P) (hb : PtOk X G W b Q) (hc : PtOk X G W c S) (hi : X.N[i]? = some x := by rfl) (hj : X.N[j]? = some y := by rfl) (hl : X.N[l]? = some z := by rfl) (hij : i ≠ j := by decide) (hil : i ≠ l := by decide) (hjl : j ≠ l := by decide)
    (hx : X.env.scope.names.lookup x = some .local := by rfl) (hy : X.env.scope.names.lookup y = some .local := by rfl) (hz : X.env.scope.names.lookup z = some .local := by rfl) (h1 : starEach [a, b, c] X.env = (false, eval a X.env) :: starEach [b, c] X.env := by rfl) (h2 : starEach [b, c] X.env = (false, eval b X.env) :: starEach [c] X.env := by rfl) (h3 : starEach [c] X.env = (false, eval c X.env) :: starEach [] X.env := by rfl)
    (hw : swappedStores [.Tuple [.Name x px, .Name y py, .Name z pz] kt pt] (.Tuple [a, b, c] k2 pt2) X.env = pure (some [x, y, z]) := by rfl)
    (hs : swapsWithSole [.Tuple [.Name x px, .Name y py, .Name z pz] kt pt] (.Tuple [a, b, c] k2 pt2) pos.line X.env = pure false := by rfl) :
    PS X (.Assign [.Tuple [.Name x px, .Name y py, .Name z pz] kt pt] (.Tuple [a, b, c] k2 pt2) pos) (tS G W (par3 i j l P Q S)) :=
  PS.imp (ps_par3 (cx.calm rfl) cx.nd hi hj hl hij hil hjl hx hy hz (pa_cons ha.pe (pa_cons hb.pe (pa_cons hc.pe pa_nil h3) h2) h1) hw hs) fun E σ H ⟨F, ρ, τ, R, q⟩ => by
    refine pt_run R (FinS.bind q) fun xx ρ1 F1 H1 v τ1 s1 R1 q1 R1' hv => ?_
    refine pt_run R1' (fin_under hv q1) fun yy ρ2 F2 H2 w τ2 s2 R2 q2 R2' hw2 => ?_
    have q3 : Fin G W F2 σ τ2 (fun zz ρ3 F3 _ => FinS G W F3 τ E (some (.ok .nx (((ρ3.set i xx.slot).set j yy.slot).set l zz.slot)))) (S.run ρ2) := by
      have q2' : FinS G W F2 τ E (M.bind S.run (fun z => fun ρ => some (.ok .nx (((ρ.set i xx.slot).set j yy.slot).set l z.slot))) ρ2) := q2
      have a1 := fin_under (hv.mono s2 (H' := H2) (ρ' := ρ2)) q2'
      exact fin_down (F1 := F2) (H1 := H2) (ρ1 := ρ2) (ρ3 := ρ2) (H3 := H2) hw2 a1
    refine pt_run R2' q3 fun zz ρ3 F3 H3 u τ3 s3 R3 q4 R3' hu => ?_
    refine ⟨v, w, u, rfl, q4 F3 H3 _ (Same.refl _) ?_⟩
    have A1 := hu.store R3' l
    have A2 := (hw2.mono s3 (H' := H3) (ρ' := ρ3.set l zz.slot)).store (σ := σ.set l (some u)) (by exact A1) j
    have A3 := (hv.mono (s2.trans s3) (H' := H3) (ρ' := (ρ3.set l zz.slot).set j yy.slot)).store (σ := (σ.set l (some u)).set j (some w)) (by exact A2) i
    rw [List.set_comm _ _ hjl, List.set_comm _ _ hil, List.set_comm _ _ hij] 
    rw [List.set_comm _ _ hjl, List.set_comm _ _ hil, List.set_comm _ _ hij] 
    exact A3
end
end Dn

/-! Owned objects written; loops; comprehensions; a def by its body -/
namespace Dn
open PySem PySem.Spec PyProof.Rows L2
section
variable {bb : Bool} {X : Cx} {G : Gx} {W : WX} {k : Nat} {pos p p2 p3 p4 : Pos} {a b c e tg iter : Expr} {es : List Expr} {fa fb fc f : M D} {fs : M (List D)} {g h : M Out} {st : Stmt} {body : List Stmt}

/-! ### x.append(e), x.pop(), x[i] = e, x[k] = e -/
def ownL (i : Nat) : M Unit := fun ρ => match ρ[i]? with
  | some (.own _ (.lst _)) => some (.ok () ρ)
  | _ => none
def push (i : Nat) (d : D) : M D := fun ρ => match ρ[i]? with
  | some (.own b (.lst ds)) => if ds.length ≤ 100000 then some (.ok .non (ρ.set i (.own b (.lst (ds ++ [d]))))) else none
  | _ => none
def appendM (i : Nat) (f : M D) : M D := M.bind (ownL i) fun _ => M.bind f (push i)
theorem own_here {i : Nat} {F H : Hp} {ρ : Sto} {σ : L2.St} {τ : Tmp} {α : Type} {Z : α → Sto → Hp → Hp → Prop} {kk : Unit → M α} (R : Rep G F H ρ σ τ) (q : Fin G W F σ τ Z (M.bind (ownL i) kk ρ)) : ∃ a vs, σ[i]? = some (some (.ref a)) ∧ H a = some (.lst vs) ∧ Fin G W F σ τ Z (kk () ρ) := by
  have q1 := Fin.bind q
  unfold ownL at q1
  split at q1
  · rename_i b ds e
    obtain ⟨a, o, g1, g2, ⟨vs, g3, _⟩, _⟩ := R.own e
    subst g3
    exact ⟨a, vs, g1, g2, q1 F H (Same.refl F) R⟩
  · exact q1.elim
theorem ltline {n : Nat} (h : n ≤ 100000) : n < sizeLine := Nat.lt_of_le_of_lt h (by rw [sizeLine_eq]; decide)
theorem mtR_append : MtR X "list.append" rAppend := mt_append
theorem ei_append {i : Nat} {x : Str} (c : Kx bb X G W k) (ha : PE X e (tI G W f)) (hN : X.N[i]? = some x := by rfl) (hv : Vis X.env.scope x := by first | exact Or.inl rfl | exact Or.inr (Or.inl rfl) | exact Or.inr (Or.inr rfl)) (hd : (x == ("__debug__" : Str)) = false := by decide) (hcd : (x == ("__classdict__" : Str)) = false := by decide)
    (hbase : attributeBase (.Name x p2) "append" X.env (eval (.Name x p2) X.env) = eval (.Name x p2) X.env := by rfl)
    (hfew : ((backTo pos (starEach [e] X.env)).all (fun x => !x.1) && (backToKw pos (keywordEach [] X.env)).all (fun x => x.1.isSome) && decide (([e] : List Expr).length + ([] : List Keyword).length + (if ([] : List Keyword).isEmpty then 0 else 1) < 30)) = true := by rfl)
    (hline : (p.endLine == pos.line) = true := by rfl) (hs : starEach [e] X.env = (false, eval e X.env) :: starEach [] X.env := by rfl) (hplain : (backTo pos (starEach [] X.env)).any (·.1) = false := by rfl) :
    PE X (.Call (.Attribute (.Name x p2) "append" p) [e] [] pos) (tI G W (appendM i f)) :=
  PE.imp (pe_bm PySem.F.plainAttrs_list PySem.F.slot_list_append PySem.F.type_list_append mtR_append (pe_var hN hv hd hcd) (pa_cons ha pa_nil hs) hbase hfew hline hs hplain) fun σ H Q ⟨F, ρ, τ, R, q⟩ => by
    obtain ⟨a, vs0, h1, h2, q0⟩ := own_here R q
    refine ⟨_, h1, .inl ⟨rfl, _, .of h2⟩, F, ρ, τ, R, (Fin.bind q0).imp fun d ρ1 F1 H1 s1 R1 q1 v rv => ?_⟩
    unfold push at q1
    split at q1
    · rename_i b ds e
      split at q1
      · rename_i hl
        obtain ⟨a', o, g1, g2, ⟨vs, g3, g4⟩, g5, g6⟩ := R1.own e
        subst g3
        have ea : V.ref a' = V.ref a := Option.some.inj (Option.some.inj (g1.symm.trans h1))
        cases ea
        have R2 := R1.write (o := .lst (vs ++ [v])) (c' := .lst (ds ++ [d])) e g1 ⟨_, rfl, g4.append (.one rv)⟩
        exact ⟨a, vs, v, rfl, rfl, g2, by rw [g4.length]; exact ltline hl, q1 F1 _ (Same.refl _) R2 _ .non⟩
      · exact q1.elim
    · exact q1.elim
def popM (i : Nat) : M D := fun ρ => match ρ[i]? with
  | some (.own b (.lst ds)) => (ds[ds.length - 1]?).map fun d => .ok d (ρ.set i (.own b (.lst ds.dropLast)))
  | _ => none
theorem mtR_pop : MtR X "list.pop" rPop := mt_pop
theorem ei_pop {i : Nat} {x : Str} (c : Kx bb X G W k) (hN : X.N[i]? = some x := by rfl) (hv : Vis X.env.scope x := by first | exact Or.inl rfl | exact Or.inr (Or.inl rfl) | exact Or.inr (Or.inr rfl)) (hd : (x == ("__debug__" : Str)) = false := by decide) (hcd : (x == ("__classdict__" : Str)) = false := by decide)
    (hbase : attributeBase (.Name x p2) "pop" X.env (eval (.Name x p2) X.env) = eval (.Name x p2) X.env := by rfl) (hline : (p.endLine == pos.line) = true := by rfl) :
    PE X (.Call (.Attribute (.Name x p2) "pop" p) [] [] pos) (tI G W (popM i)) :=
  PE.imp (pe_bm0 PySem.F.plainAttrs_list PySem.F.slot_list_pop PySem.F.type_list_pop mtR_pop (pe_var hN hv hd hcd) hbase hline) fun σ H Q ⟨F, ρ, τ, R, q⟩ => by
    unfold popM at q
    split at q
    · rename_i b ds e
      cases z : ds[ds.length - 1]? with
      | none => rw [z] at q; exact q.elim
      | some d =>
        rw [z] at q
        obtain ⟨a, o, g1, g2, ⟨vs, g3, g4⟩, g5, g6⟩ := R.own e
        subst g3
        obtain ⟨v, hv, rv⟩ := g4.get z
        have R2 := R.write (o := .lst vs.dropLast) (c' := .lst ds.dropLast) e g1 ⟨_, rfl, g4.dropLast⟩
        exact ⟨_, g1, .inl ⟨rfl, _, .of g2⟩, a, vs, v, rfl, rfl, g2, by rw [g4.length]; exact hv, q F _ (Same.refl _) R2 v rv⟩
    · exact q.elim
/-- x[i] = e of an owned list, an owned dict -/
def putL {α : Type} [DecidableEq α] (es : List (α × D)) (k : α) (d : D) : List (α × D) := if (es.any fun e => decide (e.1 = k)) = true then es.map (fun e => if e.1 = k then (e.1, d) else e) else es ++ [(k, d)]
def putC (b : D) (d : D) : Co → Option Co
  | .lst ds => match b with
    | .int i => (ixN ds.length i).map fun j => .lst (ds.set j d)
    | _ => none
  | .dT es => if es.length ≤ 100000 then (keyT b).map fun k => .dT (putL es k d) else none
  | .dK es => if es.length ≤ 100000 then (keyK b).map fun k => .dK (putL es k d) else none
def put (i : Nat) (d b : D) : M Out := fun ρ => match ρ[i]? with
  | some (.own bb c) => (putC b d c).map fun c' => .ok .nx (ρ.set i (.own bb c'))
  | _ => none
def putM (i : Nat) (fb f : M D) : M Out := M.bind f fun d => M.bind (pk i) fun _ => M.bind fb fun b => put i d b
def rSetA : V → V → V → Hp → (Hp → Prop) → Prop := fun o i v H Q => rSetL o i v H Q ∨ ∃ a H', o = .ref a ∧ DPut H a i v H' ∧ Q H'
theorem set_any (hu : X.A.units + 64 < cLine) : PSet X rSetA := fun pins s σ H o i v ov iv u Q I ro ri rv h => by
  rcases h with h | ⟨a, H', e, g, q⟩
  · exact set_list pins s σ H o i v ov iv u Q I ro ri rv h
  · subst e
    cases ro
    exact d_setItem (by omega) I g ri rv fun s' I' => ⟨H', I', q⟩
theorem putL_rel {α : Type} [DecidableEq α] {K : PySem.W.Frag} {F : Hp} {kvs : List (α × V)} {es : List (α × D)} {k : α} {v : V} {d : D} (hk : kvs.map (·.1) = es.map (·.1)) (r : RpA K F (kvs.map (·.2)) (es.map (·.2))) (rv : Rp K F v d) :
    (putK kvs k v).map (·.1) = (putL es k d).map (·.1) ∧ RpA K F ((putK kvs k v).map (·.2)) ((putL es k d).map (·.2)) := by
  have ha : (kvs.any fun e => decide (e.1 = k)) = es.any fun e => decide (e.1 = k) := by
    have : ∀ {β : Type} (l : List (α × β)), (l.any fun e => decide (e.1 = k)) = (l.map (·.1)).any fun x => decide (x = k) := by
      intro β l
      induction l with
      | nil => rfl
      | cons q l ih => rw [List.any_cons, List.map_cons, List.any_cons, ih]
    rw [this, this, hk]
  unfold putK putL
  rw [ha]
  split
  · have : ∀ {kvs : List (α × V)} {es : List (α × D)}, kvs.map (·.1) = es.map (·.1) → RpA K F (kvs.map (·.2)) (es.map (·.2)) →
        (kvs.map (fun kv => if kv.1 = k then (kv.1, v) else kv)).map (·.1) = (es.map (fun e => if e.1 = k then (e.1, d) else e)).map (·.1) ∧ RpA K F ((kvs.map (fun kv => if kv.1 = k then (kv.1, v) else kv)).map (·.2)) ((es.map (fun e => if e.1 = k then (e.1, d) else e)).map (·.2)) := by
      intro kvs
      induction kvs with
      | nil => intro es h1 h2; cases es with
        | nil => exact ⟨rfl, .nil⟩
        | cons _ _ => cases h1
      | cons q kvs ih => intro es h1 h2; cases es with
        | nil => cases h1
        | cons e es =>
          rw [List.map_cons, List.map_cons, List.cons.injEq] at h1
          cases h2 with
          | cons r1 r2 =>
            obtain ⟨i1, i2⟩ := ih h1.2 r2
            simp only [List.map_cons]
            by_cases z : q.1 = k
            · have z' : e.1 = k := by rw [← h1.1]; exact z
              rw [if_pos z, if_pos z']
              exact ⟨by rw [i1]; show q.1 :: _ = e.1 :: _; rw [h1.1], .cons rv i2⟩
            · have z' : ¬ e.1 = k := by rw [← h1.1]; exact z
              rw [if_neg z, if_neg z']
              exact ⟨by rw [i1]; show q.1 :: _ = e.1 :: _; rw [h1.1], .cons r1 i2⟩
    exact this hk r
  · refine ⟨by rw [List.map_append, List.map_append, hk]; rfl, ?_⟩
    rw [List.map_append, List.map_append]
    exact r.append (.one rv)
theorem es_put {i : Nat} {x : Str} (c : Kx bb X G W k) (hb : PE X b (tI G W fb)) (ha : PE X e (tI G W f)) (hN : X.N[i]? = some x := by rfl) (hv : Vis X.env.scope x := by first | exact Or.inl rfl | exact Or.inr (Or.inl rfl) | exact Or.inr (Or.inr rfl)) (hd : (x == ("__debug__" : Str)) = false := by decide) (hcd : (x == ("__classdict__" : Str)) = false := by decide)
    (has : ∀ v, assign (.Subscript (.Name x p2) b p) X.env v = (do
      let ov ← holding [v] (eval (.Name x p2) X.env)
      let iv ← holding [v, ov] (eval b X.env)
      standAt p
      holding [v, ov, iv] (setItem ov iv v)
      release [v, ov, iv] []) := by intro _; rfl)
    (hs : swapsWithSole [.Subscript (.Name x p2) b p] e pos.line X.env = pure false := by rfl) (hw : swappedStores [.Subscript (.Name x p2) b p] e X.env = pure none := by rfl) (h1 : (assignEach [.Subscript (.Name x p2) b p] X.env).map (·.2) = [assign (.Subscript (.Name x p2) b p) X.env] := by rfl) :
    PS X (.Assign [.Subscript (.Name x p2) b p] e pos) (tS G W (putM i fb f)) :=
  PS.imp (ps_asg ha (pg_sub (pe_var hN hv hd hcd) hb (set_any c.u64) has) hs hw h1) fun E σ H ⟨F, ρ, τ, R, q⟩ => ⟨F, ρ, τ, R, (FinS.bind q).imp fun d ρ1 F1 H1 s1 R1 q1 v rv => by
    have q2 := FinS.bind (σ := σ) q1
    obtain ⟨w, e1, q3⟩ : ∃ w, σ[i]? = some (some w) ∧ FinS G W F1 τ E (M.bind fb (fun b => put i d b) ρ1) := by
      unfold Dn.pk at q2
      split at q2
      · rename_i s e
        cases z : s.d? with
        | none => rw [z] at q2; exact q2.elim
        | some d' =>
          rw [z] at q2
          obtain ⟨w, e1, _⟩ := R1.pk e z
          exact ⟨w, e1, q2 F1 H1 (Same.refl _) R1⟩
      · exact q2.elim
    refine ⟨w, e1, F1, ρ1, τ, R1, (FinS.bind q3).imp fun b ρ2 F2 H2 s2 R2 q4 u ru => ?_⟩
    unfold put at q4
    split at q4
    · rename_i bb cc e
      obtain ⟨a, o, g1, g2, g4, g5, g6⟩ := R2.own e
      have ew : w = .ref a := Option.some.inj (Option.some.inj (e1.symm.trans g1))
      subst ew
      have rv2 := rv.mono s2
      cases cc with
      | lst ds =>
        obtain ⟨vs, g3, g4⟩ := g4
        subst g3
        unfold putC at q4
        cases ru with
        | int n =>
          cases z : ixN ds.length n with
          | none => simp only [z] at q4; exact q4.elim
          | some j =>
            simp only [z] at q4
            have R3 := R2.write (o := .lst (vs.set j v)) (c' := .lst (ds.set j d)) e g1 ⟨_, rfl, g4.set j rv2⟩
            exact .inl ⟨a, vs, n, j, rfl, rfl, g2, by rw [g4.length]; exact z, q4 F2 _ σ (Same.refl _) R3⟩
        | _ => exact q4.elim
      | dT es =>
        obtain ⟨kvs, g3, g7, g8⟩ := g4
        subst g3
        unfold putC at q4
        simp only at q4
        split at q4
        · rename_i hl
          cases z : keyT b with
          | none => simp only [z] at q4; exact q4.elim
          | some kk =>
            simp only [z] at q4
            obtain ⟨bb', eb, hb'⟩ := ru.keyT z
            subst eb
            obtain ⟨k1, k2⟩ := putL_rel (k := kk) g7 g8 rv2
            have R3 := R2.write (o := .dT (putK kvs kk v)) (c' := .dT (putL es kk d)) e g1 ⟨_, rfl, k1, k2⟩
            have hlen : kvs.length = es.length := by
              have := congrArg List.length g7
              rw [List.length_map, List.length_map] at this
              exact this
            exact .inr ⟨a, _, rfl, .t g2 (R2.sub _ _ hb') (by rw [hlen]; exact ltline hl), q4 F2 _ σ (Same.refl _) R3⟩
        · exact q4.elim
      | dK es =>
        obtain ⟨kvs, g3, g7, g8⟩ := g4
        subst g3
        unfold putC at q4
        simp only at q4
        split at q4
        · rename_i hl
          cases z : keyK b with
          | none => simp only [z] at q4; exact q4.elim
          | some kk =>
            simp only [z] at q4
            have eu := ru.keyK z
            subst eu
            obtain ⟨k1, k2⟩ := putL_rel (k := kk) g7 g8 rv2
            have R3 := R2.write (o := .dK (putK kvs kk v)) (c' := .dK (putL es kk d)) e g1 ⟨_, rfl, k1, k2⟩
            have hlen : kvs.length = es.length := by
              have := congrArg List.length g7
              rw [List.length_map, List.length_map] at this
              exact this
            exact .inr ⟨a, _, rfl, .k g2 (by rw [hlen]; exact ltline hl), q4 F2 _ σ (Same.refl _) R3⟩
        · exact q4.elim
    · exact q4.elim⟩

/-! ### loops -/
/-- what a body's end is to the loop around -/
def forLoop (t : Tgt) (g : M Out) : List D → M Out
  | [] => M.pure .nx
  | d :: ds => fun ρ => match t.set d ρ with
    | none => none
    | some ρ1 => match g ρ1 with
      | none => none
      | some (.exc e ρ2) => some (.exc e ρ2)
      | some (.ok .nx ρ2) => forLoop t g ds ρ2
      | some (.ok .ct ρ2) => forLoop t g ds ρ2
      | some (.ok .bk ρ2) => some (.ok .nx ρ2)
      | some (.ok (.ret d) ρ2) => some (.ok (.ret d) ρ2)
      | some (.ok (.retN c) ρ2) => some (.ok (.retN c) ρ2)
def forM (t : Tgt) (fs : M (List D)) (g : M Out) : M Out := M.bind fs fun ds => forLoop t g ds
theorem tFor_of {t : Tgt} : ∀ E σ H, tS G W (forM t fs g) E σ H → tFor (tW G W fs) (tG G t) (tS G W g) E σ H := fun E σ H ⟨F, ρ, τ, R, q⟩ => ⟨F, ρ, τ, R, (FinS.bind q).imp fun ds ρ1 F1 H1 s1 R1 q1 J hJ => by
  refine ⟨fun i m σ' H' => m = ds.length - i ∧ i ≤ ds.length ∧ ∃ F' ρ', Same F1 F' ∧ Rep G F' H' ρ' σ' τ ∧ FinS G W F' τ E (forLoop t g (ds.drop i) ρ'), ⟨ds.length, by omega, Nat.zero_le _, F1, ρ1, Same.refl _, R1, q1⟩, ?_⟩
  rintro i m σ2 H2 ⟨rfl, hi, F2, ρ2, s2, R2, q2⟩
  obtain ⟨go, stop⟩ := hJ i F2 H2 s2 R2.sub
  by_cases hlt : i < ds.length
  · have hd : ds[i]? = some ds[i] := List.getElem?_eq_getElem hlt
    obtain ⟨go1, yld⟩ := go _ hd
    have ed : ds.drop i = ds[i] :: ds.drop (i + 1) := List.drop_eq_getElem_cons hlt
    rw [ed] at q2
    refine .inr ⟨go1, fun σ' H' => ∃ F' ρ', Same F2 F' ∧ Rep G F' H' ρ' σ' τ ∧ FinS G W F' τ E (forLoop t g (ds.drop (i + 1)) ρ'), fun σ' H' ⟨F', ρ', a1, a2, a3⟩ => ⟨ds.length - (i + 1), by omega, rfl, by omega, F', ρ', s2.trans a1, a2, a3⟩, fun x H3 hy => ?_⟩
    obtain ⟨F3, ex, rx⟩ := yld x H3 hy
    have R3 := R2.ext ex
    unfold forLoop at q2
    cases z : t.set ds[i] ρ2 with
    | none => simp only [z] at q2; exact q2.elim
    | some ρ3 =>
      simp only [z] at q2
      refine ⟨F3, ρ2, τ, ds[i], ρ3, R3, rx, z, fun σ4 R4 _ => ⟨F3, ρ3, τ, R4, ?_⟩⟩
      match y : g ρ3 with
      | none => simp only [y] at q2; exact q2.elim
      | some (.exc e ρ4) => simp only [y] at q2; exact FinS.mono ex.f (r := some (.exc e ρ4)) q2
      | some (.ok .nx ρ4) =>
        simp only [y] at q2
        exact fun F5 H5 σ5 s5 R5 => ⟨F5, ρ4, ex.f.trans s5, R5, FinS.mono (ex.f.trans s5) q2⟩
      | some (.ok .ct ρ4) =>
        simp only [y] at q2
        exact fun F5 H5 σ5 s5 R5 => ⟨F5, ρ4, ex.f.trans s5, R5, FinS.mono (ex.f.trans s5) q2⟩
      | some (.ok .bk ρ4) => simp only [y] at q2; exact fun F5 H5 σ5 s5 R5 => q2 F5 H5 σ5 (ex.f.trans s5) R5
      | some (.ok (.ret d) ρ4) => simp only [y] at q2; exact FinS.mono ex.f (r := some (.ok (.ret d) ρ4)) q2
      | some (.ok (.retN d) ρ4) => simp only [y] at q2; exact FinS.mono ex.f (r := some (.ok (.retN d) ρ4)) q2
  · have e0 : i = ds.length := by omega
    subst e0
    rw [List.drop_length] at q2
    exact .inl ⟨stop rfl, q2 F2 H2 σ2 (Same.refl _) R2⟩⟩
theorem es_for {t : Tgt} (c : Kx true X G W k) (hp : PassesOwn (model X.prog X.w) X.A X.env X.xe) (hi : PI X tg iter (tW G W fs)) (hg : PG X tg (tG G t)) (hb : PSs X body (tS G W g)) (hs : ∀ x, foldedSetIterable iter X.env x = pure x := by intro _; rfl) :
    PS X (.For tg iter body [] pos) (tS G W (forM t fs g)) := PS.imp (ps_for hp (c.calm rfl) hi hg hb hs) tFor_of
def whileLoop (t : M Bool) (g : M Out) : Nat → M Out
  | 0 => fun _ => none
  | n + 1 => M.bind t fun k => if k then (fun ρ1 => match g ρ1 with
      | none => none
      | some (.exc e ρ2) => some (.exc e ρ2)
      | some (.ok .nx ρ2) => whileLoop t g n ρ2
      | some (.ok .ct ρ2) => whileLoop t g n ρ2
      | some (.ok .bk ρ2) => some (.ok .nx ρ2)
      | some (.ok (.ret d) ρ2) => some (.ok (.ret d) ρ2)
      | some (.ok (.retN c) ρ2) => some (.ok (.retN c) ρ2)) else M.pure .nx
/-- so many turns at most -/
def whileM (t : M Bool) (g : M Out) : M Out := whileLoop t g 5000
theorem es_while {t : M Bool} (c : Kx bb X G W k) (hp : PassesOwn (model X.prog X.w) X.A X.env X.xe) (hc : PT X e (tT G W t)) (hb : PSs X body (tS G W g)) : PS X (.While e body [] pos) (tS G W (whileM t g)) := PS.imp (ps_while hp hc hb) fun E σ H ⟨F, ρ, τ, R, q⟩ => by
  refine ⟨fun m σ' H' => ∃ F' ρ', Same F F' ∧ Rep G F' H' ρ' σ' τ ∧ FinS G W F' τ E (whileLoop t g m ρ'), ⟨5000, F, ρ, Same.refl _, R, q⟩, ?_⟩
  rintro m σ1 H1 ⟨F1, ρ1, s1, R1, q1⟩
  cases m with
  | zero => exact q1.elim
  | succ m =>
    unfold whileLoop at q1
    refine ⟨F1, ρ1, τ, R1, (FinS.bind q1).imp fun kk ρ2 F2 H2 s2 R2 q2 => ?_⟩
    cases kk with
    | false =>
      rw [if_neg Bool.false_ne_true]
      exact q2 F2 H2 σ1 (Same.refl _) R2
    | true =>
      rw [if_pos rfl] at q2 ⊢
      refine ⟨fun σ' H' => ∃ F' ρ', Same F F' ∧ Rep G F' H' ρ' σ' τ ∧ FinS G W F' τ E (whileLoop t g m ρ'), fun σ' H' h => ⟨m, Nat.lt_succ_self _, h⟩, F2, ρ2, τ, R2, ?_⟩
      match y : g ρ2 with
      | none => simp only [y] at q2; exact q2.elim
      | some (.exc e ρ4) => simp only [y] at q2; exact q2
      | some (.ok .nx ρ4) =>
        simp only [y] at q2
        exact fun F5 H5 σ5 s5 R5 => ⟨F5, ρ4, (s1.trans s2).trans s5, R5, FinS.mono s5 q2⟩
      | some (.ok .ct ρ4) =>
        simp only [y] at q2
        exact fun F5 H5 σ5 s5 R5 => ⟨F5, ρ4, (s1.trans s2).trans s5, R5, FinS.mono s5 q2⟩
      | some (.ok .bk ρ4) => simp only [y] at q2; exact q2
      | some (.ok (.ret d) ρ4) => simp only [y] at q2; exact q2
      | some (.ok (.retN d) ρ4) => simp only [y] at q2; exact q2
end
end Dn

/-! Comprehensions; a def by its body; a law's end -/
namespace Dn
open PySem PySem.Spec PyProof.Rows L2
abbrev W0 : WX := fun _ _ _ _ => False
theorem takes0 {X : Cx} : L2N.Takes X W0 := fun u s' ⟨_, _, _, _, _, _, _, _, _, _, _, _, _, _, _, _, z⟩ => z.elim
/-- the context of a def's body -/
abbrev cxB (bb : Bool) (CX : CXT) (P : Program) (w : World) (K : PySem.W.Frag) (mg : Str → Option Value) (base : Heap) (N : List Str) (qual : Str) (scope : Scope) (f : Addr) (cd : Value) (A : Around) (outer : List Env) (s : Shared) (H : Hp) (E : XK) (pn : List (Addr × Obj)) : Cx :=
  { cxOf CX P w K mg base N qual scope f cd A outer s H E with calm := bb, pn := pn }
section
variable {bb : Bool} {X : Cx} {G : Gx} {W : WX} {k : Nat} {pos p p2 p3 p4 : Pos} {a b c e tg iter tg1 iter1 : Expr} {es ifs ifs1 : List Expr} {fa fb fc f : M D} {fs fs1 : M (List D)} {g h : M Out} {st : Stmt} {body : List Stmt}

def wipeS (ρ : Sto) : List Nat → Sto
  | [] => ρ
  | v :: vs => (wipeS ρ vs).set v .emp
theorem Rep.wiped {F H : Hp} {ρ : Sto} {σ : L2.St} {τ : Tmp} (R : Rep G F H ρ σ τ) : ∀ vs : List Nat, Rep G F H (wipeS ρ vs) (wipe σ vs) τ
  | [] => R
  | v :: vs => (Rep.wiped R vs).clear v none
def clean : Option Slot → Slot
  | some (.val d) => .val d
  | _ => .emp
/-- the block's own names as they were before it -/
def restS (ρ0 : Sto) : List Nat → Sto → Sto
  | [], ρ => ρ
  | i :: is, ρ => (restS ρ0 is ρ).set i (clean ρ0[i]?)
theorem restS_length (ρ0 : Sto) : ∀ (vs : List Nat) (ρ : Sto), (restS ρ0 vs ρ).length = ρ.length
  | [], _ => rfl
  | i :: is, ρ => by unfold restS; rw [List.length_set, restS_length]
theorem restS_get {ρ0 : Sto} {i : Nat} {s : Slot} : ∀ {vs : List Nat} {ρ : Sto}, (restS ρ0 vs ρ)[i]? = some s → (i ∈ vs ∧ s = clean ρ0[i]?) ∨ (i ∉ vs ∧ ρ[i]? = some s)
  | [], ρ, h => .inr ⟨by simp, h⟩
  | j :: is, ρ, h => by
    unfold restS at h
    rcases getElem?_set_cases h with ⟨rfl, e⟩ | ⟨e1, e2⟩
    · exact .inl ⟨List.mem_cons_self, e⟩
    · rcases restS_get e2 with ⟨h1, h2⟩ | ⟨h1, h2⟩
      · exact .inl ⟨List.mem_cons_of_mem _ h1, h2⟩
      · exact .inr ⟨by rw [List.mem_cons, not_or]; exact ⟨e1, h1⟩, h2⟩
theorem wipe_out {σ : L2.St} {i : Nat} : ∀ {vs : List Nat}, i ∉ vs → (wipe σ vs)[i]? = σ[i]?
  | [], _ => rfl
  | v :: vs, h => by
    rw [List.mem_cons, not_or] at h
    unfold wipe
    rw [List.getElem?_set_ne (Ne.symm h.1), wipe_out h.2]
theorem Rep.rested {F H F' H' : Hp} {ρ0 ρB : Sto} {σ : L2.St} {τ τ' : Tmp} {vs : List Nat} (R0 : Rep G F H ρ0 σ τ) (s : Same F F') (RB : Rep G F' H' ρB (wipe σ vs) τ') : Rep G F' H' (restS ρ0 vs ρB) σ τ' := by
  have cl : ∀ o : Option Slot, (clean o).ow = false := fun o => by
    unfold clean
    split <;> rfl
  have own : ∀ (i : Nat) (t : Slot), (restS ρ0 vs ρB)[i]? = some t → t.ow = true → i ∉ vs ∧ ρB[i]? = some t := fun i t h1 h2 => by
    rcases restS_get h1 with ⟨_, e⟩ | h
    · rw [e, cl] at h2; cases h2
    · exact h
  refine ⟨RB.sub, RB.base, RB.newF, RB.keep, RB.alive, ?_, fun i t h => ?_, fun i j t u hij hi hj ht hu => ?_, fun t ht => ?_, RB.tnd⟩
  · rw [restS_length, ← RB.len, wipe_length]
  · rcases restS_get h with ⟨h1, e⟩ | ⟨h1, h2⟩
    · have hl := (List.getElem?_eq_some_iff.mp h).1
      rw [restS_length, ← RB.len, wipe_length] at hl
      have hs : σ[i]? = some σ[i] := List.getElem?_eq_getElem hl
      refine ⟨_, hs, ?_⟩
      subst e
      unfold clean
      split
      · rename_i d e
        obtain ⟨ov, g1, v, g2, g3⟩ := R0.slot i _ e
        rw [hs] at g1
        cases g1
        exact ⟨v, g2, g3.mono s⟩
      · trivial
    · obtain ⟨ov, g1, g2⟩ := RB.slot i t h2
      rw [wipe_out h1] at g1
      exact ⟨ov, g1, g2⟩
  · obtain ⟨a1, a2⟩ := own i t hi ht
    obtain ⟨b1, b2⟩ := own j u hj hu
    have := RB.apart i j t u hij a2 b2 ht hu
    rw [wipe_out a1, wipe_out b1] at this
    exact this
  · obtain ⟨h1, h2, h3, h4⟩ := RB.tmp t ht
    refine ⟨h1, h2, h3, fun i u hi hu => ?_⟩
    obtain ⟨a1, a2⟩ := own i u hi hu
    have := h4 i u a2 hu
    rw [wipe_out a1] at this
    exact this

/-! ### tests of a comprehension -/
theorem ets_nil : PTs X [] (tT G W (M.pure true)) := ⟨fun pins s σ H Q I ⟨F, ρ, τ, R, q⟩ => pts_nil.run pins s σ H Q I (q F H (Same.refl F) R)⟩
theorem ets_one {t : M Bool} (h : PT X c (tT G W t)) : PTs X [c] (tT G W t) := pts_one h

/-! ### one clause -/
def lcLoop (vs : List Nat) (t : Tgt) (tt : M Bool) (f : M D) : List D → List D → M (List D)
  | [], acc => M.pure acc
  | d :: ds, acc => fun ρ => match t.set d ρ with
    | none => none
    | some ρ1 => match tt ρ1 with
      | some (.ok true ρ2) => match f ρ2 with
        | some (.ok y ρ3) => if lenOk acc then lcLoop vs t tt f ds (acc ++ [y]) (wipeS ρ3 vs) else none
        | _ => none
      | some (.ok false ρ2) => lcLoop vs t tt f ds acc (wipeS ρ2 vs)
      | _ => none
def lcM (vs : List Nat) (t : Tgt) (fs : M (List D)) (tt : M Bool) (f : M D) : M Co := M.bind fs fun ds => fun ρ => match lcLoop vs t tt f ds [] (wipeS ρ vs) with
  | some (.ok acc ρB) => some (.ok (.lst acc) (restS ρ vs ρB))
  | _ => none
theorem wipe_self {σ : L2.St} : ∀ {vs ws : List Nat}, (∀ i ∈ ws, i ∈ vs) → wipe (wipe σ ws) vs = wipe σ vs
  | vs, [], _ => rfl
  | vs, w :: ws, h => by
    show wipe ((wipe σ ws).set w none) vs = wipe σ vs
    rw [wipe_set (h w List.mem_cons_self), wipe_self fun i hi => h i (List.mem_cons_of_mem _ hi)]
theorem lenOk_lt {α : Type} {l : List α} (h : lenOk l = true) : l.length < sizeLine := ltline (of_decide_eq_true h)
/-- the loop of a clause, from the new list's state on -/
theorem lc_run {vs : List Nat} {t : Tgt} {tt : M Bool} {F H : Hp} {σ : L2.St} {τ : Tmp} {Dd : Addr} {J : It} {ds accF acc0 : List D} {ρ0 ρB : Sto} {vacc0 : List V} {Nx : Hp → Prop} (hJ : IterOf G.K F ds J) (ht : ∀ i ∈ t.is, i ∈ vs)
    (hrun : lcLoop vs t tt f ds acc0 ρ0 = some (.ok accF ρB)) (R : Rep G F H ρ0 (wipe σ vs) ((Dd, .lst vacc0) :: τ)) (ra : RpA G.K F vacc0 acc0)
    (fin : ∀ F' H' vacc, Same F F' → Rep G F' H' ρB (wipe σ vs) ((Dd, .lst vacc) :: τ) → RpA G.K F' vacc accF → Nx H') :
    ∃ Wm : Nat → Nat → Hp → Prop, (∃ m, Wm 0 m H) ∧ ∀ i m H, Wm i m H →
      (J.stop i H ∧ Nx H) ∨ (J.go i H ∧ ∃ N : Hp → Prop, (∀ H', N H' → ∃ m', m' < m ∧ Wm (i + 1) m' H') ∧ ∀ x H', J.yld i H x H' → tG G t x (wipe σ vs) H' fun σ2 H2 => wipe σ2 vs = wipe σ vs ∧ tT G W0 tt σ2 H2 fun b H3 =>
        if b = true then tI G W0 f σ2 H3 fun y H4 => ∃ acc, H4 Dd = some (.lst acc) ∧ acc.length < sizeLine ∧ N (upd H4 Dd (.lst (acc ++ [y]))) else N H3) := by
  refine ⟨fun i m H' => m = ds.length - i ∧ i ≤ ds.length ∧ ∃ F' ρ' acc vacc, Same F F' ∧ Rep G F' H' ρ' (wipe σ vs) ((Dd, .lst vacc) :: τ) ∧ RpA G.K F' vacc acc ∧ lcLoop vs t tt f (ds.drop i) acc ρ' = some (.ok accF ρB),
    ⟨ds.length, by omega, Nat.zero_le _, F, ρ0, acc0, vacc0, Same.refl _, R, ra, hrun⟩, ?_⟩
  rintro i m H2 ⟨rfl, hi, F2, ρ2, acc, vacc, s2, R2, ra2, hr2⟩
  obtain ⟨go, stop⟩ := hJ i F2 H2 s2 R2.sub
  by_cases hlt : i < ds.length
  · obtain ⟨go1, yld⟩ := go _ (List.getElem?_eq_getElem hlt)
    rw [List.drop_eq_getElem_cons hlt] at hr2
    refine .inr ⟨go1, fun H' => ∃ F' ρ' acc vacc, Same F F' ∧ Rep G F' H' ρ' (wipe σ vs) ((Dd, .lst vacc) :: τ) ∧ RpA G.K F' vacc acc ∧ lcLoop vs t tt f (ds.drop (i + 1)) acc ρ' = some (.ok accF ρB), fun H' h => ⟨ds.length - (i + 1), by omega, rfl, by omega, h⟩, fun x H3 hy => ?_⟩
    obtain ⟨F3, ex, rx⟩ := yld x H3 hy
    have R3 := R2.ext ex
    unfold lcLoop at hr2
    cases z : t.set ds[i] ρ2 with
    | none => simp only [z] at hr2; cases hr2
    | some ρ3 =>
      simp only [z] at hr2
      refine ⟨F3, ρ2, _, ds[i], ρ3, R3, rx, z, fun σ4 R4 hw => ?_⟩
      have ew : wipe σ4 vs = wipe σ vs := (hw vs ht).trans (wipe_self fun _ h => h)
      refine ⟨ew, F3, ρ3, _, R4, ?_⟩
      match y : tt ρ3 with
      | none => simp only [y] at hr2; cases hr2
      | some (.exc e ρ4) => simp only [y] at hr2; cases hr2
      | some (.ok false ρ4) =>
        simp only [y] at hr2
        refine fun F5 H5 s5 R5 => iteF ⟨F5, wipeS ρ4 vs, acc, vacc, s2.trans (ex.f.trans s5), ?_, ra2.mono (ex.f.trans s5), hr2⟩
        rw [← ew]
        exact R5.wiped vs
      | some (.ok true ρ4) =>
        simp only [y] at hr2
        refine fun F5 H5 s5 R5 => iteT ⟨F5, ρ4, _, R5, ?_⟩
        match u : f ρ4 with
        | none => simp only [u] at hr2; cases hr2
        | some (.exc e ρ5) => simp only [u] at hr2; cases hr2
        | some (.ok d ρ5) =>
          simp only [u] at hr2
          split at hr2
          · rename_i hl
            intro F6 H6 s6 R6 v rv
            have ra6 := ra2.mono (ex.f.trans (s5.trans s6))
            obtain ⟨_, g1, _⟩ := R6.pop
            refine ⟨vacc, g1, by rw [ra2.length]; exact lenOk_lt hl, F6, wipeS ρ5 vs, acc ++ [d], vacc ++ [v], s2.trans (ex.f.trans (s5.trans s6)), ?_, ra6.append (.one rv), hr2⟩
            rw [← ew]
            exact (R6.wtmp _).wiped vs
          · cases hr2
  · have e0 : i = ds.length := by omega
    subst e0
    rw [List.drop_length] at hr2
    unfold lcLoop at hr2
    cases hr2
    exact .inl ⟨stop rfl, fin F2 H2 vacc s2 R2 ra2⟩
theorem Kx.blk (c : Kx true X G W k) (s : Shared) (H : Hp) (scope : Scope) (ce : Env) (fp : List Addr) : Kx true (X.blk s H scope ce fp) G W0 k := ⟨c.hK, takes0, c.un, c.nd, c.hr, c.calm, fun z => nomatch z⟩
section
variable {scope : Scope} {own : List (Str × Nat)} {t t1 : Tgt} {tt tt1 : M Bool} {vs vs1 : List Nat}
theorem tLc_of (hv : own.map (·.2) = vs) (ht : ∀ i ∈ t.is, i ∈ vs) : ∀ σ H Q, tN G W (lcM vs t fs tt f) σ H Q → tLc (tW G W fs) (tG G t) (tT G W0 tt) (tI G W0 f) (own.map (·.2)) σ H Q := fun σ H Q ⟨F, ρ, τ, R, q⟩ => ⟨F, ρ, τ, R, (Fin.bind q).imp fun ds ρ1 F1 H1 s1 R1 q1 J hJ Dd hD => by
  rw [hv]
  match z : lcLoop vs t tt f ds [] (wipeS ρ1 vs) with
  | none => simp only [z] at q1; exact q1.elim
  | some (.exc e ρ') => simp only [z] at q1; exact q1.elim
  | some (.ok acc ρB) =>
    simp only [z] at q1
    have Rn : Rep G F1 (upd H1 Dd (.lst [])) ρ1 σ ((Dd, .lst []) :: τ) := (R1.ext (Ext.loose _ R1.sub hD)).push upd_same (R1.sub.free hD) (R1.new_0 hD) (R1.free_new hD) (R1.new_tmp hD)
    exact lc_run hJ ht z (Rn.wiped vs) .nil fun F' H' vacc s' RB ra => by
      have R2 := R1.rested s' RB
      obtain ⟨R3, g1, g2, g3, g4, g5⟩ := R2.pop
      exact q1 F' H' s' R3 Dd ⟨_, g1, ⟨vacc, rfl, ra⟩, g2, g3, g4, g5⟩⟩
theorem en_lc (c : Kx true X G W k) (hi : PI X tg iter (tW G W fs)) (ok : BlkOk X.N X.env.scope scope own) (hv : own.map (·.2) = vs := by rfl) (ht : ∀ i ∈ t.is, i ∈ vs := by decide)
    (hg : ∀ (s : Shared) (H : Hp) (C : Addr) (cl : List (Str × Addr)) (fp : List Addr), Kx true (X.blk s H scope (compEnvC scope cl C X.env) fp) G W0 k → PG (X.blk s H scope (compEnvC scope cl C X.env) fp) tg (tG G t))
    (hts : ∀ (s : Shared) (H : Hp) (C : Addr) (cl : List (Str × Addr)) (fp : List Addr), Kx true (X.blk s H scope (compEnvC scope cl C X.env) fp) G W0 k → PTs (X.blk s H scope (compEnvC scope cl C X.env) fp) ifs (tT G W0 tt))
    (he : ∀ (s : Shared) (H : Hp) (C : Addr) (cl : List (Str × Addr)) (fp : List Addr), Kx true (X.blk s H scope (compEnvC scope cl C X.env) fp) G W0 k → PE (X.blk s H scope (compEnvC scope cl C X.env) fp) e (tI G W0 f)) (hs : ∀ x, foldedSetIterable iter X.env x = pure x := by intro _; rfl) :
    PE X (.ListComp e [⟨tg, iter, ifs, 0⟩] scope pos) (tN G W (lcM vs t fs tt f)) :=
  PE.imp (pe_lc (c.calm rfl) c.nd hi ok (fun s H C cl fp => hg s H C cl fp (c.blk ..)) (fun s H C cl fp => hts s H C cl fp (c.blk ..)) (fun s H C cl fp => he s H C cl fp (c.blk ..)) hs) (tLc_of hv ht)
/-- name = [..] -/
theorem es_ownLc {i : Nat} {y : Str} {py spos : Pos} (c : Kx true X G W k) (hi : PI X tg iter (tW G W fs)) (ok : BlkOk X.N X.env.scope scope own) (hsw : swapsWith (.ListComp e [⟨tg, iter, ifs, 0⟩] scope pos) (some (.Name y py)) spos.line X.env = pure true)
    (hg : ∀ (s : Shared) (H : Hp) (C : Addr) (cl : List (Str × Addr)) (fp : List Addr), Kx true (X.blk s H scope (compEnvC scope cl C X.env) fp) G W0 k → PG (X.blk s H scope (compEnvC scope cl C X.env) fp) tg (tG G t))
    (hts : ∀ (s : Shared) (H : Hp) (C : Addr) (cl : List (Str × Addr)) (fp : List Addr), Kx true (X.blk s H scope (compEnvC scope cl C X.env) fp) G W0 k → PTs (X.blk s H scope (compEnvC scope cl C X.env) fp) ifs (tT G W0 tt))
    (he : ∀ (s : Shared) (H : Hp) (C : Addr) (cl : List (Str × Addr)) (fp : List Addr), Kx true (X.blk s H scope (compEnvC scope cl C X.env) fp) G W0 k → PE (X.blk s H scope (compEnvC scope cl C X.env) fp) e (tI G W0 f)) (hv : own.map (·.2) = vs := by rfl) (ht : ∀ i ∈ t.is, i ∈ vs := by decide) (hy : X.N[i]? = some y := by rfl) (hyl : X.env.scope.names.lookup y = some .local := by rfl) (hs : ∀ x, foldedSetIterable iter X.env x = pure x := by intro _; rfl) :
    PS X (.Assign [.Name y py] (.ListComp e [⟨tg, iter, ifs, 0⟩] scope pos) spos) (tS G W (ownM i (lcM vs t fs tt f))) :=
  PS.imp (ps_setLc (c.calm rfl) c.nd hy hyl hsw hi ok (fun s H C cl fp => hg s H C cl fp (c.blk ..)) (fun s H C cl fp => hts s H C cl fp (c.blk ..)) (fun s H C cl fp => he s H C cl fp (c.blk ..)) hs) fun E σ H ⟨F, ρ, τ, R, q⟩ =>
    tLc_of hv ht σ H _ ⟨F, ρ, τ, R, (FinS.bind q).imp fun d ρ1 F1 H1 s1 R1 q1 p ⟨o, f1, f2, f3, f4, f5, f6⟩ => q1 F1 H1 _ (Same.refl _) (R1.seto i f1 f2 f3 f4 f5 f6)⟩

/-! ### two clauses -/
def lc2Loop (vs vs1 : List Nat) (t : Tgt) (tt : M Bool) (fs1 : M (List D)) (t1 : Tgt) (tt1 : M Bool) (f : M D) : List D → List D → M (List D)
  | [], acc => M.pure acc
  | d :: ds, acc => fun ρ => match t.set d ρ with
    | none => none
    | some ρ1 => match tt ρ1 with
      | some (.ok true ρ2) => match fs1 ρ2 with
        | some (.ok ds1 ρ3) => match lcLoop vs1 t1 tt1 f ds1 acc (wipeS ρ3 vs1) with
          | some (.ok acc' ρ4) => lc2Loop vs vs1 t tt fs1 t1 tt1 f ds acc' (wipeS ρ4 vs)
          | _ => none
        | _ => none
      | some (.ok false ρ2) => lc2Loop vs vs1 t tt fs1 t1 tt1 f ds acc (wipeS ρ2 vs)
      | _ => none
def lc2M (vs vs1 : List Nat) (t : Tgt) (fs : M (List D)) (tt : M Bool) (fs1 : M (List D)) (t1 : Tgt) (tt1 : M Bool) (f : M D) : M Co := M.bind fs fun ds => fun ρ => match lc2Loop vs vs1 t tt fs1 t1 tt1 f ds [] (wipeS ρ vs) with
  | some (.ok acc ρB) => some (.ok (.lst acc) (restS ρ vs ρB))
  | _ => none
theorem tLc2_of (hv : own.map (·.2) = vs) (ht : ∀ i ∈ t.is, i ∈ vs) (ht1 : ∀ i ∈ t1.is, i ∈ vs1) (hv1 : ∀ i ∈ vs1, i ∈ vs) : ∀ σ H Q, tN G W (lc2M vs vs1 t fs tt fs1 t1 tt1 f) σ H Q → tLc2 (tW G W fs) (tG G t) (tT G W0 tt) (tW G W0 fs1) (tG G t1) (tT G W0 tt1) (tI G W0 f) (own.map (·.2)) vs1 σ H Q := fun σ H Q ⟨F, ρ, τ, R, q⟩ => ⟨F, ρ, τ, R, (Fin.bind q).imp fun ds ρ1 F1 H1 s1 R1 q1 J hJ Dd hD => by
  rw [hv]
  match z : lc2Loop vs vs1 t tt fs1 t1 tt1 f ds [] (wipeS ρ1 vs) with
  | none => simp only [z] at q1; exact q1.elim
  | some (.exc e ρ') => simp only [z] at q1; exact q1.elim
  | some (.ok accF ρB) =>
    simp only [z] at q1
    have Rn : Rep G F1 (upd H1 Dd (.lst [])) ρ1 σ ((Dd, .lst []) :: τ) := (R1.ext (Ext.loose _ R1.sub hD)).push upd_same (R1.sub.free hD) (R1.new_0 hD) (R1.free_new hD) (R1.new_tmp hD)
    refine ⟨fun i m H' => m = ds.length - i ∧ i ≤ ds.length ∧ ∃ F' ρ' acc vacc, Same F1 F' ∧ Rep G F' H' ρ' (wipe σ vs) ((Dd, .lst vacc) :: τ) ∧ RpA G.K F' vacc acc ∧ lc2Loop vs vs1 t tt fs1 t1 tt1 f (ds.drop i) acc ρ' = some (.ok accF ρB),
      ⟨ds.length, by omega, Nat.zero_le _, F1, _, [], [], Same.refl _, Rn.wiped vs, .nil, z⟩, ?_⟩
    rintro i m H2 ⟨rfl, hi, F2, ρ2, acc, vacc, s2, R2, ra2, hr2⟩
    obtain ⟨go, stop⟩ := hJ i F2 H2 s2 R2.sub
    by_cases hlt : i < ds.length
    · obtain ⟨go1, yld⟩ := go _ (List.getElem?_eq_getElem hlt)
      rw [List.drop_eq_getElem_cons hlt] at hr2
      refine .inr ⟨go1, fun H' => ∃ F' ρ' acc vacc, Same F1 F' ∧ Rep G F' H' ρ' (wipe σ vs) ((Dd, .lst vacc) :: τ) ∧ RpA G.K F' vacc acc ∧ lc2Loop vs vs1 t tt fs1 t1 tt1 f (ds.drop (i + 1)) acc ρ' = some (.ok accF ρB), fun H' h => ⟨ds.length - (i + 1), by omega, rfl, by omega, h⟩, fun x H3 hy => ?_⟩
      obtain ⟨F3, ex, rx⟩ := yld x H3 hy
      have R3 := R2.ext ex
      unfold lc2Loop at hr2
      cases z : t.set ds[i] ρ2 with
      | none => simp only [z] at hr2; cases hr2
      | some ρ3 =>
        simp only [z] at hr2
        refine ⟨F3, ρ2, _, ds[i], ρ3, R3, rx, z, fun σ4 R4 hw => ?_⟩
        have ew : wipe σ4 vs = wipe σ vs := (hw vs ht).trans (wipe_self fun _ h => h)
        refine ⟨ew, F3, ρ3, _, R4, ?_⟩
        match y : tt ρ3 with
        | none => simp only [y] at hr2; cases hr2
        | some (.exc e ρ4) => simp only [y] at hr2; cases hr2
        | some (.ok false ρ4) =>
          simp only [y] at hr2
          refine fun F5 H5 s5 R5 => iteF ⟨F5, wipeS ρ4 vs, acc, vacc, s2.trans (ex.f.trans s5), ?_, ra2.mono (ex.f.trans s5), hr2⟩
          rw [← ew]
          exact R5.wiped vs
        | some (.ok true ρ4) =>
          simp only [y] at hr2
          refine fun F5 H5 s5 R5 => iteT ⟨F5, ρ4, _, R5, ?_⟩
          match u : fs1 ρ4 with
          | none => simp only [u] at hr2; cases hr2
          | some (.exc e ρ5) => simp only [u] at hr2; cases hr2
          | some (.ok ds1 ρ5) =>
            simp only [u] at hr2
            match w : lcLoop vs1 t1 tt1 f ds1 acc (wipeS ρ5 vs1) with
            | none => simp only [w] at hr2; cases hr2
            | some (.exc e ρ6) => simp only [w] at hr2; cases hr2
            | some (.ok acc' ρ6) =>
              simp only [w] at hr2
              intro F6 H6 s6 R6 J1 hJ1
              refine lc_run hJ1 ht1 w (R6.wiped vs1) (ra2.mono (ex.f.trans (s5.trans s6))) fun F' H' vacc' s' RB ra => ⟨F', wipeS ρ6 vs, acc', vacc', s2.trans (ex.f.trans (s5.trans (s6.trans s'))), ?_, ra, hr2⟩
              rw [← ew, ← wipe_self (σ := σ4) hv1]
              exact RB.wiped vs
    · have e0 : i = ds.length := by omega
      subst e0
      rw [List.drop_length] at hr2
      unfold lc2Loop at hr2
      cases hr2
      have R4 := R1.rested s2 R2
      obtain ⟨R3, g1, g2, g3, g4, g5⟩ := R4.pop
      exact .inl ⟨stop rfl, q1 F2 H2 s2 R3 Dd ⟨_, g1, ⟨vacc, rfl, ra2⟩, g2, g3, g4, g5⟩⟩⟩
theorem en_lc2 (c : Kx true X G W k) (hi : PI X tg iter (tW G W fs)) (ok : BlkOk X.N X.env.scope scope own) (hv : own.map (·.2) = vs := by rfl) (ht : ∀ i ∈ t.is, i ∈ vs := by decide) (ht1 : ∀ i ∈ t1.is, i ∈ vs1 := by decide) (hv1 : ∀ i ∈ vs1, i ∈ vs := by decide)
    (hg : ∀ (s : Shared) (H : Hp) (C : Addr) (cl : List (Str × Addr)) (fp : List Addr), Kx true (X.blk s H scope (compEnvC scope cl C X.env) fp) G W0 k → PG (X.blk s H scope (compEnvC scope cl C X.env) fp) tg (tG G t))
    (hts : ∀ (s : Shared) (H : Hp) (C : Addr) (cl : List (Str × Addr)) (fp : List Addr), Kx true (X.blk s H scope (compEnvC scope cl C X.env) fp) G W0 k → PTs (X.blk s H scope (compEnvC scope cl C X.env) fp) ifs (tT G W0 tt))
    (hi1 : ∀ (s : Shared) (H : Hp) (C : Addr) (cl : List (Str × Addr)) (fp : List Addr), Kx true (X.blk s H scope (compEnvC scope cl C X.env) fp) G W0 k → PI (X.blk s H scope (compEnvC scope cl C X.env) fp) tg1 iter1 (tW G W0 fs1))
    (hg1 : ∀ (s : Shared) (H : Hp) (C : Addr) (cl : List (Str × Addr)) (fp : List Addr), Kx true (X.blk s H scope (compEnvC scope cl C X.env) fp) G W0 k → PG (X.blk s H scope (compEnvC scope cl C X.env) fp) tg1 (tG G t1))
    (hts1 : ∀ (s : Shared) (H : Hp) (C : Addr) (cl : List (Str × Addr)) (fp : List Addr), Kx true (X.blk s H scope (compEnvC scope cl C X.env) fp) G W0 k → PTs (X.blk s H scope (compEnvC scope cl C X.env) fp) ifs1 (tT G W0 tt1))
    (he : ∀ (s : Shared) (H : Hp) (C : Addr) (cl : List (Str × Addr)) (fp : List Addr), Kx true (X.blk s H scope (compEnvC scope cl C X.env) fp) G W0 k → PE (X.blk s H scope (compEnvC scope cl C X.env) fp) e (tI G W0 f)) (hs : ∀ x, foldedSetIterable iter X.env x = pure x := by intro _; rfl) (hs1 : ∀ env x, foldedSetIterable iter1 env x = pure x := by intro _ _; rfl) :
    PE X (.ListComp e [⟨tg, iter, ifs, 0⟩, ⟨tg1, iter1, ifs1, 0⟩] scope pos) (tN G W (lc2M vs vs1 t fs tt fs1 t1 tt1 f)) :=
  PE.imp (pe_lc2 (c.calm rfl) c.nd hi ok (fun i h => by rw [hv]; exact hv1 i h) (fun s H C cl fp => hg s H C cl fp (c.blk ..)) (fun s H C cl fp => hts s H C cl fp (c.blk ..)) (fun s H C cl fp => hi1 s H C cl fp (c.blk ..)) (fun s H C cl fp => hg1 s H C cl fp (c.blk ..)) (fun s H C cl fp => hts1 s H C cl fp (c.blk ..)) (fun s H C cl fp => he s H C cl fp (c.blk ..)) hs hs1) (tLc2_of hv ht ht1 hv1)
end
end

/-! ### a def by its body -/
section
variable {P : Program} {w : World} {K : PySem.W.Frag} {mg : Str → Option Value} {base : Heap} {ex : Nat → Value} {x qual : Str} {st : Stmt} {f : Addr} {fd : FuncData} {N ps : List Str} {k : Nat} {g : M Out}
/-- a def's state at its entry -/
def start0 (N : Nat) (ds : List D) : Sto := ds.map Slot.val ++ List.replicate (N - ds.length) Slot.emp
def runD (N : Nat) (g : M Out) : Den D := fun ds => match g (start0 N ds) with
  | none => none
  | some (.exc e _) => some (.error e)
  | some (.ok .nx _) => some (.ok .non)
  | some (.ok (.ret d) _) => some (.ok d)
  | some (.ok (.retN c) _) => some (.ok c.d)
  | some (.ok _ _) => none
def runN (N : Nat) (g : M Out) : Den Co := fun ds => match g (start0 N ds) with
  | some (.exc e _) => some (.error e)
  | some (.ok (.retN c) _) => some (.ok c)
  | _ => none
/-- the first argument a list that is lent -/
def startL (N : Nat) (rs ds : List D) : Sto := Slot.own true (.lst rs) :: (ds.map Slot.val ++ List.replicate (N - (ds.length + 1)) Slot.emp)
def runL (N : Nat) (g : M Out) : List D → Den (D × List D) := fun rs ds => match g (startL N rs ds) with
  | some (.ok (.ret d) (.own true (.lst rs') :: _)) => some (.ok (d, rs'))
  | _ => none
abbrev WD (E : XK) : WX := fun cls d _ H => E cls d H
theorem start_slot {F H : Hp} {vs : List V} {ds : List D} {G : Gx} (r : RpA G.K F vs ds) {m i : Nat} {s : Slot} (h : (ds.map Slot.val ++ List.replicate m Slot.emp)[i]? = some s) : ∃ ov, (vs.map some ++ List.replicate m (none : Option V))[i]? = some ov ∧ SlotR G F H ov s ∧ s.ow = false := by
  by_cases hi : i < ds.length
  · have hv : i < vs.length := by rw [r.length]; exact hi
    rw [List.getElem?_append_left (by rw [List.length_map]; exact hi), List.getElem?_map, List.getElem?_eq_getElem hi] at h
    obtain ⟨v, h1, h2⟩ := r.get (List.getElem?_eq_getElem hi)
    have h : some (Slot.val ds[i]) = some s := h
    cases h
    refine ⟨some v, ?_, ⟨v, rfl, h2⟩, rfl⟩
    rw [List.getElem?_append_left (by rw [List.length_map]; exact hv), List.getElem?_map, h1]
    rfl
  · have hl := (List.getElem?_eq_some_iff.mp h).1
    rw [List.length_append, List.length_map, List.length_replicate] at hl
    rw [List.getElem?_append_right (by rw [List.length_map]; omega), List.getElem?_replicate] at h
    split at h
    · cases h
      refine ⟨none, ?_, trivial, rfl⟩
      rw [List.getElem?_append_right (by rw [List.length_map, r.length]; omega), List.getElem?_replicate, List.length_map, r.length]
      rw [if_pos (by rename_i z; rw [List.length_map] at z; exact z)]
    · cases h
theorem start_rep {F H : Hp} {vs : List V} {ds : List D} (s : Same F H) (r : RpA K F vs ds) (hn : vs.length = ps.length) (hl : ps.length ≤ N.length) : Rep ⟨K, F, H, [], ex⟩ F H (start0 N.length ds) (L2.start N vs) [] := by
  have e1 : L2.start N vs = vs.map some ++ List.replicate (N.length - ds.length) none := by unfold L2.start; rw [r.length]
  rw [e1]
  unfold start0
  refine ⟨s, Same.refl _, fun a h1 h2 => absurd h2 h1, fun a o _ h => h, fun a h => h, ?_, fun i t h => ?_, fun i j t u hij hi hj ht hu => ?_, fun t ht => (nomatch ht), List.nodup_nil⟩
  · rw [List.length_append, List.length_append, List.length_map, List.length_map, List.length_replicate, List.length_replicate, r.length]
  · obtain ⟨ov, h1, h2, _⟩ := start_slot (G := ⟨K, F, H, [], ex⟩) r h
    exact ⟨ov, h1, h2⟩
  · obtain ⟨_, _, _, h3⟩ := start_slot (G := ⟨K, F, H, [], ex⟩) (H := H) r hi
    rw [ht] at h3
    cases h3
theorem Rep.out {F0 H0 F' H' : Hp} {ρ' : Sto} {σ' : L2.St} {τ : Tmp} (R : Rep ⟨K, F0, H0, [], ex⟩ F' H' ρ' σ' τ) : Ext F0 H0 F' H' := ⟨R.base, fun a o h => R.keep a o (by simp) h, R.sub, fun a h1 h2 => R.newF a h1 h2⟩
theorem kx_def {bb : Bool} (S : FnScope N ps (defScope st)) {cdv : Value} {A : Around} {outer : List Env} {s : Shared} {H F : Hp} {E : XK} {pn : List (Addr × Obj)} {G : Gx} (hG : G.K = K)
    (hr : bb = true → Room k (A.deeper (envOfC qual (defScope st) s.heap.objs.size f cdv))) (hh : bb = false → L2H.RoomH k (A.deeper (envOfC qual (defScope st) s.heap.objs.size f cdv)) ∧ ∃ p, L2H.Hot1 A p ∧ p ∈ pn) :
    Kx bb (cxB bb (L2N.CX P w) P w K mg base N qual (defScope st) f cdv A outer s H E pn) G (WD E) k where
  hK := hG
  tk := L2N.takes_of rfl rfl rfl rfl
  un := by
    cases bb with
    | true => exact (hr rfl).un
    | false => exact (hh rfl).1.un
  nd := S.nd
  hr := hr
  calm := fun z => z
  hot := fun z => ⟨let ⟨_, p, h1, h2⟩ := hh z; ⟨p, h1, h2⟩, (hh z).1⟩
/-- a def stands: where nothing is handled (true), or in an except suite -/
def FnB (bb : Bool) (P : Program) (w : World) (K : PySem.W.Frag) (mg : Str → Option Value) (base : Heap) (k : Nat) (f : Addr) (fd : FuncData) (ps : List Str) (sp : Sp) : Prop :=
  (bb = true → FnOk P w K mg base (L2N.CX P w) k f fd ps sp) ∧ (bb = false → L2H.FnH P w K mg base (L2N.CX P w) k f fd ps sp)
theorem fn_B {bb : Bool} {sp : Sp} (Fn : Fun K x qual st f fd) (S : FnScope N ps (defScope st)) (len : ∀ vs H Q E, sp vs H Q E → vs.length = ps.length)
    (hb : ∀ (cdv : Value) (A : Around) (outer : List Env) (s : Shared) (H : Hp) (vs : List V) (Q : VK) (E : XK) (pn : List (Addr × Obj)), (∀ G : Gx, G.K = K → Kx bb (cxB bb (L2N.CX P w) P w K mg base N qual (defScope st) f cdv A outer s H E pn) G (WD E) k) → sp vs H Q E →
      ∃ t, PSs (cxB bb (L2N.CX P w) P w K mg base N qual (defScope st) f cdv A outer s H E pn) (defBody st) t ∧ t { nx := fun _ H' => Q .non H', rt := Q } (L2.start N vs) H) : FnB bb P w K mg base (k + 1) f fd ps sp := by
  obtain ⟨oc, od, kV, doc, pm, an, cdv, ct, osl, rfl, lk, hcd⟩ := Fn.ex
  refine ⟨fun z => ?_, fun z => ?_⟩
  · subst z
    exact fn_of lk hcd S len fun A outer s H vs Q E hr hsp => hb cdv A outer s H vs Q E [] (fun G hG => kx_def (F := H) S hG (fun _ => hr) fun y => nomatch y) hsp
  · subst z
    exact L2H.fn_ofH lk hcd S len fun A outer s H vs Q E p hot hr hsp => hb cdv A outer s H vs Q E [p] (fun G hG => kx_def (F := H) S hG (fun y => nomatch y) fun _ => ⟨hr, p, hot, List.mem_cons_self⟩) hsp
theorem fn_D {bb : Bool} (Fn : Fun K x qual st f fd) (S : FnScope N ps (defScope st)) (hl : ps.length ≤ N.length)
    (hb : ∀ (cdv : Value) (A : Around) (outer : List Env) (s : Shared) (H : Hp) (E : XK) (pn : List (Addr × Obj)) (G : Gx), G.ex = ex → Kx bb (cxB bb (L2N.CX P w) P w K mg base N qual (defScope st) f cdv A outer s H E pn) G (WD E) k →
      PSs (cxB bb (L2N.CX P w) P w K mg base N qual (defScope st) f cdv A outer s H E pn) (defBody st) (tS G (WD E) g)) : FnB bb P w K mg base (k + 1) f fd ps (spD K ex ps.length (runD N.length g)) := by
  refine fn_B Fn S (fun vs H Q E ⟨F, ds, _, r, hn, _⟩ => r.length.trans hn) fun cdv A outer s H vs Q E pn hkx ⟨F, ds, sF, r, hn, q⟩ => ⟨_, hb cdv A outer s H E pn ⟨K, F, H, [], ex⟩ rfl (hkx _ rfl), F, _, [], start_rep sF r (r.length.trans hn) hl, ?_⟩
  unfold runD at q
  match z : g (start0 N.length ds) with
  | none => rw [z] at q; exact q.elim
  | some (.exc e ρ') => rw [z] at q; exact fun F' H' σ' cls dd s' R' xr => q F' H' cls dd R'.out xr
  | some (.ok .nx ρ') => rw [z] at q; exact fun F' H' σ' s' R' => q F' H' .non R'.out .non
  | some (.ok (.ret d) ρ') => rw [z] at q; exact fun F' H' σ' v s' R' rv => q F' H' v R'.out rv
  | some (.ok (.retN c) ρ') =>
    rw [z] at q
    intro F' H' σ' p' s' R' ⟨o, f1, f2, f3, f4, _, _⟩
    have sF2 : Same F' (upd F' p' o) := same_upd f3
    have e1 : Same (upd F' p' o) H' := fun a x e => by
      by_cases w' : a = p'
      · subst w'
        rw [upd_same] at e
        rw [← e]; exact f1
      · rw [upd_ne w'] at e
        exact R'.sub a x e
    refine q (upd F' p' o) H' (.ref p') ⟨R'.out.f.trans sF2, R'.out.h, e1, fun a h1 h2 => ?_⟩ (f2.rp sF2 upd_same)
    by_cases w' : a = p'
    · rw [w']; exact f4
    · rw [upd_ne w'] at h1
      exact R'.newF a h1 h2
  | some (.ok .bk ρ') => rw [z] at q; exact q.elim
  | some (.ok .ct ρ') => rw [z] at q; exact q.elim
theorem fn_N {bb : Bool} (Fn : Fun K x qual st f fd) (S : FnScope N ps (defScope st)) (hl : ps.length ≤ N.length)
    (hb : ∀ (cdv : Value) (A : Around) (outer : List Env) (s : Shared) (H : Hp) (E : XK) (pn : List (Addr × Obj)) (G : Gx), G.ex = ex → Kx bb (cxB bb (L2N.CX P w) P w K mg base N qual (defScope st) f cdv A outer s H E pn) G (WD E) k →
      PSs (cxB bb (L2N.CX P w) P w K mg base N qual (defScope st) f cdv A outer s H E pn) (defBody st) (tS G (WD E) g)) : FnB bb P w K mg base (k + 1) f fd ps (spN K ex ps.length (runN N.length g)) := by
  refine fn_B Fn S (fun vs H Q E ⟨F, ds, _, r, hn, _⟩ => r.length.trans hn) fun cdv A outer s H vs Q E pn hkx ⟨F, ds, sF, r, hn, q⟩ => ⟨_, hb cdv A outer s H E pn ⟨K, F, H, [], ex⟩ rfl (hkx _ rfl), F, _, [], start_rep sF r (r.length.trans hn) hl, ?_⟩
  unfold runN at q
  match z : g (start0 N.length ds) with
  | none => rw [z] at q; exact q.elim
  | some (.exc e ρ') => rw [z] at q; exact fun F' H' σ' cls dd s' R' xr => q F' H' cls dd R'.out xr
  | some (.ok .nx ρ') => rw [z] at q; exact q.elim
  | some (.ok (.ret d) ρ') => rw [z] at q; exact q.elim
  | some (.ok (.retN c) ρ') => rw [z] at q; exact fun F' H' σ' p' s' R' ⟨o, f1, f2, f3, f4, _, _⟩ => q F' H' p' o R'.out f1 f2 f3 f4
  | some (.ok .bk ρ') => rw [z] at q; exact q.elim
  | some (.ok .ct ρ') => rw [z] at q; exact q.elim
theorem fn_L {bb : Bool} (Fn : Fun K x qual st f fd) (S : FnScope N ps (defScope st)) (hl : ps.length ≤ N.length)
    (hb : ∀ (cdv : Value) (A : Around) (outer : List Env) (s : Shared) (H : Hp) (E : XK) (pn : List (Addr × Obj)) (G : Gx), G.ex = ex → Kx bb (cxB bb (L2N.CX P w) P w K mg base N qual (defScope st) f cdv A outer s H E pn) G (WD E) k →
      PSs (cxB bb (L2N.CX P w) P w K mg base N qual (defScope st) f cdv A outer s H E pn) (defBody st) (tS G (WD E) g)) : FnB bb P w K mg base (k + 1) f fd ps (spL K ex ps.length (runL N.length g)) := by
  refine fn_B Fn S (fun vs H Q E ⟨F, p', rv, rs, us, ds, _, e, _, _, _, r, hn, _⟩ => by rw [e, List.length_cons, r.length]; exact hn) fun cdv A outer s H vs Q E pn hkx ⟨F, p', rv, rs, us, ds, sF, e, hp, hF, ra, r, hn, q⟩ => ⟨_, hb cdv A outer s H E pn ⟨K, F, H, [p'], ex⟩ rfl (hkx _ rfl), F, startL N.length rs ds, [], ?_, ?_⟩
  · subst e
    have e1 : L2.start N (V.ref p' :: us) = some (.ref p') :: (us.map some ++ List.replicate (N.length - (ds.length + 1)) none) := by unfold L2.start; rw [List.map_cons, List.length_cons, r.length]; rfl
    rw [e1]
    unfold startL
    have sl : ∀ {i : Nat} {t : Slot}, (Slot.own true (.lst rs) :: (ds.map Slot.val ++ List.replicate (N.length - (ds.length + 1)) Slot.emp))[i]? = some t → ∃ ov, (some (V.ref p') :: (us.map some ++ List.replicate (N.length - (ds.length + 1)) none))[i]? = some ov ∧ SlotR ⟨K, F, H, [p'], ex⟩ F H ov t ∧ (i ≠ 0 → t.ow = false) := fun {i t} h => by
      cases i with
      | zero => cases h; exact ⟨_, rfl, ⟨p', .lst rv, rfl, hp, ⟨rv, rfl, ra⟩, hF, List.mem_singleton.mpr rfl⟩, fun z => absurd rfl z⟩
      | succ i =>
        obtain ⟨ov, h1, h2, h3⟩ := start_slot (G := ⟨K, F, H, [p'], ex⟩) (H := H) r (show (ds.map Slot.val ++ List.replicate (N.length - (ds.length + 1)) Slot.emp)[i]? = some t from h)
        exact ⟨ov, h1, h2, fun _ => h3⟩
    refine ⟨sF, Same.refl _, fun a h1 h2 => absurd h2 h1, fun a o _ h => h, fun a h => h, ?_, fun i t h => ?_, fun i j t u hij hi hj ht hu => ?_, fun t ht => (nomatch ht), List.nodup_nil⟩
    · rw [List.length_cons, List.length_cons, List.length_append, List.length_append, List.length_map, List.length_map, List.length_replicate, List.length_replicate, r.length]
    · obtain ⟨ov, h1, h2, _⟩ := sl h
      exact ⟨ov, h1, h2⟩
    · obtain ⟨_, _, _, h3⟩ := sl hi
      obtain ⟨_, _, _, h4⟩ := sl hj
      by_cases z : i = 0
      · have := h4 (fun y => hij (z.trans y.symm))
        rw [hu] at this
        cases this
      · have := h3 z
        rw [ht] at this
        cases this
  · unfold runL at q
    match z : g (startL N.length rs ds) with
    | none => rw [z] at q; exact q.elim
    | some (.exc e ρ') => rw [z] at q; exact q.elim
    | some (.ok .nx ρ') => rw [z] at q; exact q.elim
    | some (.ok (.retN d) ρ') => rw [z] at q; exact q.elim
    | some (.ok .bk ρ') => rw [z] at q; exact q.elim
    | some (.ok .ct ρ') => rw [z] at q; exact q.elim
    | some (.ok (.ret d) ρ') =>
      rw [z] at q
      match y : ρ' with
      | [] => exact q.elim
      | .emp :: _ => exact q.elim
      | .val _ :: _ => exact q.elim
      | .own false _ :: _ => exact q.elim
      | .own true (.dT _) :: _ => exact q.elim
      | .own true (.dK _) :: _ => exact q.elim
      | .own true (.lst rs') :: rr =>
        intro F' H' σ' v s' R' rv'
        obtain ⟨a, o, g1, g2, ⟨vs2, g3, g4⟩, g5, g6⟩ := R'.own (i := 0) rfl
        subst g3
        have ea : a = p' := List.mem_singleton.mp g6
        subst ea
        exact q F' H' v vs2 R'.base R'.sub (fun b h1 h2 => R'.newF b h1 h2) (fun b o hb h => R'.keep b o (fun m => hb (List.mem_singleton.mp m)) h) g5 g2 g4 rv'
end
end Dn

/-! Where a def stands; what a law's text takes of the built-ins; more expressions -/
namespace Dn
open PySem PySem.Spec PyProof.Rows L2
section
variable {bb : Bool} {X : Cx} {G : Gx} {W : WX} {k : Nat} {pos p p2 p3 p4 : Pos} {a b c e : Expr} {es : List Expr} {fa fb fc f : M D} {fs fs1 : M (List D)}
def negD : D → Option D
  | .int i => some (.int (-i))
  | _ => none
def un1 (g : D → Option D) (f : M D) : M D := M.bind f fun d => M.lift (g d)
theorem ei_neg (h : PE X e (tI G W f)) : PE X (.UnaryOp .USub e pos) (tI G W (un1 negD f)) := PE.imp (pe_un un_neg h) fun σ H Q ⟨F, ρ, τ, R, q⟩ => ⟨F, ρ, τ, R, (Fin.bind q).imp fun d ρ1 F1 H1 s1 R1 q1 v rv => by
  obtain ⟨d', e, z⟩ := Fin.lift q1
  unfold negD at e
  split at e
  · cases e
    cases rv
    exact ⟨_, rfl, z F1 H1 (Same.refl _) R1 _ (.int _)⟩
  · cases e⟩
/-- two lists in a row: a fresh one -/
def catC : D → D → Option Co
  | .lst x, .lst y => if x.length + y.length ≤ 100000 then some (.lst (x ++ y)) else none
  | _, _ => none
def catM (fa fb : M D) : M Co := M.bind fa fun a => M.bind fb fun b => M.lift (catC a b)
theorem en_cat (ha : PE X a (tI G W fa)) (hb : PE X b (tI G W fb)) : PE X (.BinOp a .Add b pos) (tN G W (catM fa fb)) := PE.imp (pe_op op_cat ha hb) fun σ H Q ⟨F, ρ, τ, R, q⟩ => ⟨F, ρ, τ, R, (Fin.bind q).imp fun a ρ1 F1 H1 s1 R1 q1 v rv => ⟨F1, ρ1, τ, R1, (Fin.bind q1).imp fun b ρ2 F2 H2 s2 R2 q2 w rw => by
  obtain ⟨d, e, z⟩ := Fin.lift q2
  have rv2 := rv.mono s2
  unfold catC at e
  split at e
  · split at e
    · rename_i hl
      cases e
      cases rv2 with
      | lst h1 r1 =>
        cases rw with
        | lst h2 r2 =>
          refine ⟨_, _, _, _, rfl, rfl, R2.sub _ _ h1, R2.sub _ _ h2, by rw [r1.length, r2.length]; exact line5 hl, fun p hp => ?_⟩
          obtain ⟨R3, fr⟩ := R2.newly (c := .lst _) hp ⟨_, rfl, r1.append r2⟩
          exact z F2 _ (Same.refl _) R3 p fr
    · cases e
  · cases e⟩⟩
end
/-- a def of the module -/
structure DefAt (K : PySem.W.Frag) (mg : Str → Option Value) (x : Str) (st : Stmt) (ps : List Str) : Prop where
  ex : ∃ f fd, Fun K x x st f fd ∧ mg x = some (.ref f) ∧ Binds K fd ps []
theorem def_at {K : PySem.W.Frag} {h : Heap} {mg : Str → Option Value} {x : Str} {st : Stmt} {ps : List Str} {f : Addr} {od an : Option Addr} {sl : Array (Option Value)} {oc kV dc pm cd ct : Value} (X : K.In h) (G : h.Ns mainGlobals mg)
    (a : PySem.W.nsIn K mainGlobals x = some (some (.ref f))) (l : K.lookup f = some ⟨oc, od, .func (PySem.W.fnOf x x (defArgs st) (defBody st) (defScope st) .none kV dc pm an cd ct), sl⟩) (c : PySem.W.codeIn K cd x = true) (k : PySem.W.keepIn K (.ref f) = true)
    (b : ∀ (kV doc pm : Value) (an : Option Addr) (cdv ct : Value) (us : List Value), us.length = ps.length → bindArgs (PySem.W.fnOf x x (defArgs st) (defBody st) (defScope st) .none kV doc pm an cdv ct) ⟨us, []⟩ = pure (ps.zip us)) : DefAt K mg x st ps := by
  have F := fun_mk (st := st) l c k
  exact ⟨f, _, F, PySem.W.mg_of X G a, F.binds b⟩
section
variable {bb : Bool} {P : Program} {w : World} {K : PySem.W.Frag} {mg : Str → Option Value} {base : Heap} {ex : Nat → Value} {x : Str} {st : Stmt} {N ps : List Str} {k : Nat} {g : M Out}
theorem df_D (d : DefAt K mg x st ps) (S : FnScope N ps (defScope st)) (hl : ps.length ≤ N.length := by decide)
    (hb : ∀ (f : Addr) (cdv : Value) (A : Around) (outer : List Env) (s : Shared) (H : Hp) (E : XK) (pn : List (Addr × Obj)) (G : Gx), G.ex = ex → Kx bb (cxB bb (L2N.CX P w) P w K mg base N x (defScope st) f cdv A outer s H E pn) G (WD E) k →
      PSs (cxB bb (L2N.CX P w) P w K mg base N x (defScope st) f cdv A outer s H E pn) (defBody st) (tS G (WD E) g)) : Df bb P w K mg base x ps.length (k + 1) (spD K ex ps.length (runD N.length g)) := by
  obtain ⟨f, fd, h1, h2, h3⟩ := d.ex
  have b := fn_D (bb := bb) (ex := ex) h1 S hl (fun cdv A outer s H E pn G h c => hb f cdv A outer s H E pn G h c)
  exact ⟨f, fd, ps, b.1, b.2, rfl, h2, h1.kp, h3⟩
theorem df_N (d : DefAt K mg x st ps) (S : FnScope N ps (defScope st)) (hl : ps.length ≤ N.length := by decide)
    (hb : ∀ (f : Addr) (cdv : Value) (A : Around) (outer : List Env) (s : Shared) (H : Hp) (E : XK) (pn : List (Addr × Obj)) (G : Gx), G.ex = ex → Kx bb (cxB bb (L2N.CX P w) P w K mg base N x (defScope st) f cdv A outer s H E pn) G (WD E) k →
      PSs (cxB bb (L2N.CX P w) P w K mg base N x (defScope st) f cdv A outer s H E pn) (defBody st) (tS G (WD E) g)) : Df bb P w K mg base x ps.length (k + 1) (spN K ex ps.length (runN N.length g)) := by
  obtain ⟨f, fd, h1, h2, h3⟩ := d.ex
  have b := fn_N (bb := bb) (ex := ex) h1 S hl (fun cdv A outer s H E pn G h c => hb f cdv A outer s H E pn G h c)
  exact ⟨f, fd, ps, b.1, b.2, rfl, h2, h1.kp, h3⟩
theorem df_L (d : DefAt K mg x st ps) (S : FnScope N ps (defScope st)) (hl : ps.length ≤ N.length := by decide)
    (hb : ∀ (f : Addr) (cdv : Value) (A : Around) (outer : List Env) (s : Shared) (H : Hp) (E : XK) (pn : List (Addr × Obj)) (G : Gx), G.ex = ex → Kx bb (cxB bb (L2N.CX P w) P w K mg base N x (defScope st) f cdv A outer s H E pn) G (WD E) k →
      PSs (cxB bb (L2N.CX P w) P w K mg base N x (defScope st) f cdv A outer s H E pn) (defBody st) (tS G (WD E) g)) : Df bb P w K mg base x ps.length (k + 1) (spL K ex ps.length (runL N.length g)) := by
  obtain ⟨f, fd, h1, h2, h3⟩ := d.ex
  have b := fn_L (bb := bb) (ex := ex) h1 S hl (fun cdv A outer s H E pn G h c => hb f cdv A outer s H E pn G h c)
  exact ⟨f, fd, ps, b.1, b.2, rfl, h2, h1.kp, h3⟩
/-- nothing is promised -/
theorem df_none (d : DefAt K mg x st ps) : Df bb P w K mg base x ps.length k (spD K ex ps.length fun _ => none) := by
  obtain ⟨f, fd, h1, h2, h3⟩ := d.ex
  exact ⟨f, fd, ps, fun _ => ⟨fun vs H Q E ⟨F, ds, _, _, _, q⟩ => q.elim, fun A outer s H args us vs Q E _ _ _ _ ⟨F, ds, _, _, _, q⟩ => q.elim⟩, fun _ => ⟨fun vs H Q E ⟨F, ds, _, _, _, q⟩ => q.elim, fun A outer s H args us vs Q E p _ _ _ _ _ _ ⟨F, ds, _, _, _, q⟩ => q.elim⟩, rfl, h2, h1.kp, h3⟩
theorem ex_of {α : Type} {p : α → Prop} {t : α} (h : p t) : ∃ t, p t := ⟨t, h⟩
/-- the law's own promise -/
theorem law_sp {den : Den D} {H : Hp} {a : Addr} {ns : List Int} (h : den [.scr ns] = some (.ok (.bl true))) (hS : SqL K H a (ns.map V.int)) : spD K ex 1 den [.ref a] H (fun v _ => v = .bl true) fun _ _ _ => False :=
  ⟨H, [.scr ns], Same.refl H, .one (.scr hS), rfl, by
    rw [h]
    intro F' H' v _ r
    cases r
    rfl⟩
theorem law_cx {P : Program} {w : World} {H : Hp} {s : Shared} {e : Value} {s' : Shared} (h : L2N.CX P w [] H s (fun _ _ _ => False) e s') : False := by
  obtain ⟨_, _, _, _, _, _, _, _, _, _, _, _, z⟩ := h
  exact z
end
end Dn

/-! Loops, by what they do -/
namespace Dn
/-- so many turns of next while cond -/
def runW {α : Type} (cond : α → Bool) (next : α → α) : Nat → α → α
  | 0, a => a
  | n + 1, a => if cond a then runW cond next n (next a) else a
theorem while_runs {α : Type} {t : M Bool} {g : M Out} (Inv : α → Sto → Prop) (cond : α → Bool) (next : α → α) (μ : α → Nat)
    (H : ∀ a ρ, Inv a ρ → ∃ ρt, t ρ = some (.ok (cond a) ρt) ∧ Inv a ρt ∧ (cond a = true → μ (next a) < μ a ∧ ∃ ρ2, g ρt = some (.ok .nx ρ2) ∧ Inv (next a) ρ2)) :
    ∀ (n : Nat) (a : α) (ρ : Sto), Inv a ρ → μ a < n → ∃ ρ', whileLoop t g n ρ = some (.ok .nx ρ') ∧ Inv (runW cond next n a) ρ' ∧ cond (runW cond next n a) = false
  | 0, _, _, _, h => absurd h (Nat.not_lt_zero _)
  | n + 1, a, ρ, I, h => by
    obtain ⟨ρt, e, It, z⟩ := H a ρ I
    unfold whileLoop runW
    unfold M.bind
    rw [e]
    cases hc : cond a with
    | false => exact ⟨ρt, rfl, by simpa using It, by simpa using hc⟩
    | true =>
      obtain ⟨hm, ρ2, e2, I2⟩ := z hc
      simp only [if_true]
      rw [e2]
      exact while_runs Inv cond next μ H n (next a) ρ2 I2 (by omega)
theorem for_runs {α : Type} {t : Tgt} {g : M Out} (Inv : α → Sto → Prop) (next : α → D → α) :
    ∀ (ds : List D) (a : α) (ρ : Sto), (∀ a d ρ, d ∈ ds → Inv a ρ → ∃ ρ1 ρ2, t.set d ρ = some ρ1 ∧ g ρ1 = some (.ok .nx ρ2) ∧ Inv (next a d) ρ2) → Inv a ρ → ∃ ρ', forLoop t g ds ρ = some (.ok .nx ρ') ∧ Inv (ds.foldl next a) ρ'
  | [], a, ρ, _, I => ⟨ρ, rfl, I⟩
  | d :: ds, a, ρ, H, I => by
    obtain ⟨ρ1, ρ2, e1, e2, I2⟩ := H a d ρ (List.mem_cons_self ..) I
    unfold forLoop
    rw [e1]
    simp only [e2]
    exact for_runs Inv next ds _ ρ2 (fun a d ρ h => H a d ρ (List.mem_cons_of_mem _ h)) I2
/-- over data that stand for things of another kind -/
theorem for_runs_map {α β : Type} {t : Tgt} {g : M Out} (Inv : α → Sto → Prop) (next : α → β → α) (f : β → D) :
    ∀ (bs : List β) (a : α) (ρ : Sto), (∀ a b ρ, b ∈ bs → Inv a ρ → ∃ ρ1 ρ2, t.set (f b) ρ = some ρ1 ∧ g ρ1 = some (.ok .nx ρ2) ∧ Inv (next a b) ρ2) → Inv a ρ → ∃ ρ', forLoop t g (bs.map f) ρ = some (.ok .nx ρ') ∧ Inv (bs.foldl next a) ρ'
  | [], a, ρ, _, I => ⟨ρ, rfl, I⟩
  | d :: ds, a, ρ, H, I => by
    obtain ⟨ρ1, ρ2, e1, e2, I2⟩ := H a d ρ (List.mem_cons_self ..) I
    rw [List.map_cons]
    unfold forLoop
    rw [e1]
    simp only [e2]
    exact for_runs_map Inv next f ds _ ρ2 (fun a d ρ h => H a d ρ (List.mem_cons_of_mem _ h)) I2
theorem lc_runs {β : Type} {vs : List Nat} {t : Tgt} {tt : M Bool} {f : M D} {ρ : Sto} (c : β → D) (p : β → Bool) (g : β → D) :
    ∀ (bs : List β) (acc : List D), (∀ b ∈ bs, ∃ ρ1 ρ2, t.set (c b) ρ = some ρ1 ∧ tt ρ1 = some (.ok (p b) ρ2) ∧ (p b = false → wipeS ρ2 vs = ρ) ∧ (p b = true → ∃ ρ3, f ρ2 = some (.ok (g b) ρ3) ∧ wipeS ρ3 vs = ρ)) → acc.length + bs.length ≤ 100000 →
      lcLoop vs t tt f (bs.map c) acc ρ = some (.ok (acc ++ (bs.filter p).map g) ρ)
  | [], acc, _, _ => by simp [lcLoop, M.pure]
  | b :: bs, acc, H, hl => by
    obtain ⟨ρ1, ρ2, e1, e2, n, y⟩ := H b (List.mem_cons_self ..)
    rw [List.map_cons]
    unfold lcLoop
    rw [e1]
    simp only [e2]
    rw [List.length_cons] at hl
    cases hp : p b with
    | false =>
      rw [hp] at e2
      simp only [n hp]
      rw [lc_runs c p g bs acc (fun b h => H b (List.mem_cons_of_mem _ h)) (by omega), List.filter_cons_of_neg (by simp [hp])]
    | true =>
      rw [hp] at e2
      obtain ⟨ρ3, e3, w⟩ := y hp
      simp only [e3]
      have hk : lenOk acc = true := decide_eq_true (by omega)
      rw [hk, if_pos rfl, w, lc_runs c p g bs (acc ++ [g b]) (fun b h => H b (List.mem_cons_of_mem _ h)) (by rw [List.length_append, List.length_singleton]; omega), List.filter_cons_of_pos hp, List.map_cons, List.append_assoc]
      rfl
/-- by what has been gone through -/
theorem for_pre {β : Type} {t : Tgt} {g : M Out} (f : β → D) (Inv : List β → Sto → Prop) (bs : List β) (H : ∀ pre b post ρ, bs = pre ++ b :: post → Inv pre ρ → ∃ ρ1 ρ2, t.set (f b) ρ = some ρ1 ∧ g ρ1 = some (.ok .nx ρ2) ∧ Inv (pre ++ [b]) ρ2) :
    ∀ (post pre : List β) (ρ : Sto), bs = pre ++ post → Inv pre ρ → ∃ ρ', forLoop t g (post.map f) ρ = some (.ok .nx ρ') ∧ Inv bs ρ'
  | [], pre, ρ, e, I => ⟨ρ, rfl, by rw [e, List.append_nil]; exact I⟩
  | b :: post, pre, ρ, e, I => by
    obtain ⟨ρ1, ρ2, e1, e2, I2⟩ := H pre b post ρ e I
    rw [List.map_cons]
    unfold forLoop
    rw [e1]
    simp only [e2]
    exact for_pre f Inv bs H post (pre ++ [b]) ρ2 (by rw [e, List.append_assoc]; rfl) I2
/-- so many turns -/
theorem while_count {t : M Bool} {g : M Out} (Inv : Nat → Sto → Prop) (L : Nat) (H : ∀ k ρ, k < L → Inv k ρ → ∃ ρt ρ2, t ρ = some (.ok true ρt) ∧ g ρt = some (.ok .nx ρ2) ∧ Inv (k + 1) ρ2) (E : ∀ ρ, Inv L ρ → ∃ ρt, t ρ = some (.ok false ρt) ∧ Inv L ρt) :
    ∀ (n k : Nat) (ρ : Sto), k ≤ L → L - k < n → Inv k ρ → ∃ ρ', whileLoop t g n ρ = some (.ok .nx ρ') ∧ Inv L ρ'
  | 0, _, _, _, h, _ => absurd h (Nat.not_lt_zero _)
  | n + 1, k, ρ, hk, h, I => by
    unfold whileLoop M.bind
    by_cases c : k < L
    · obtain ⟨ρt, ρ2, e1, e2, I2⟩ := H k ρ c I
      rw [e1]
      simp only [if_true, e2]
      exact while_count Inv L H E n (k + 1) ρ2 c (by omega) I2
    · have : k = L := by omega
      subst this
      obtain ⟨ρt, e1, I2⟩ := E ρ I
      rw [e1]
      exact ⟨ρt, by simp [M.pure], I2⟩
theorem runD_ret {N : Nat} {g : M Out} {ds : List D} {d : D} {ρ' : Sto} (h : g (start0 N ds) = some (.ok (.ret d) ρ')) : runD N g ds = some (.ok d) := by
  unfold runD
  rw [h]
theorem runD_nx {N : Nat} {g : M Out} {ds : List D} {ρ' : Sto} (h : g (start0 N ds) = some (.ok .nx ρ')) : runD N g ds = some (.ok .non) := by
  unfold runD
  rw [h]
theorem bind_ok {α β : Type} {m : M α} {k : α → M β} {ρ ρ1 : Sto} {a : α} {r : Option (Res β)} (h : m ρ = some (.ok a ρ1)) (h2 : k a ρ1 = r) : M.bind m k ρ = r := by
  unfold M.bind
  rw [h]
  exact h2
theorem retM_ok {f : M D} {ρ ρ1 : Sto} {d : D} (h : f ρ = some (.ok d ρ1)) : retM f ρ = some (.ok (.ret d) ρ1) := bind_ok h rfl
theorem map_ok {α β : Type} {f : M α} {g : α → β} {ρ ρ1 : Sto} {a : α} (h : f ρ = some (.ok a ρ1)) : M.map f g ρ = some (.ok (g a) ρ1) := bind_ok h rfl
theorem seq_nx {g h : M Out} {ρ ρ1 : Sto} {r : Option (Res Out)} (h1 : g ρ = some (.ok .nx ρ1)) (h2 : h ρ1 = r) : seqS g h ρ = r := bind_ok h1 h2
theorem seq_ret {g h : M Out} {ρ ρ1 : Sto} {d : D} (h1 : g ρ = some (.ok (.ret d) ρ1)) : seqS g h ρ = some (.ok (.ret d) ρ1) := bind_ok h1 rfl
theorem own_ok {i : Nat} {f : M Co} {ρ ρ1 : Sto} {c : Co} (h : f ρ = some (.ok c ρ1)) : ownM i f ρ = some (.ok .nx (ρ1.set i (.own false c))) := bind_ok h rfl
theorem set_ok {i : Nat} {f : M D} {ρ ρ1 : Sto} {d : D} (h : f ρ = some (.ok d ρ1)) : setM i f ρ = some (.ok .nx (ρ1.set i (.val d))) := bind_ok h rfl
theorem drop_ok {f : M D} {ρ ρ1 : Sto} {d : D} (h : f ρ = some (.ok d ρ1)) : dropM f ρ = some (.ok .nx ρ1) := bind_ok h rfl
theorem if_tt {t : M Bool} {g h : M Out} {ρ ρ1 : Sto} {r : Option (Res Out)} (h1 : t ρ = some (.ok true ρ1)) (h2 : g ρ1 = r) : ifM t g h ρ = r := bind_ok h1 h2
theorem if_ff {t : M Bool} {g h : M Out} {ρ ρ1 : Sto} {r : Option (Res Out)} (h1 : t ρ = some (.ok false ρ1)) (h2 : h ρ1 = r) : ifM t g h ρ = r := bind_ok h1 h2
theorem lc_ok {vs : List Nat} {t : Tgt} {fs : M (List D)} {tt : M Bool} {f : M D} {ρ ρ1 ρB : Sto} {ds acc : List D} (h : fs ρ = some (.ok ds ρ1)) (h2 : lcLoop vs t tt f ds [] (wipeS ρ1 vs) = some (.ok acc ρB)) : lcM vs t fs tt f ρ = some (.ok (.lst acc) (restS ρ1 vs ρB)) := bind_ok h (by simp only [h2])
theorem lc2_ok {vs vs1 : List Nat} {t t1 : Tgt} {fs fs1 : M (List D)} {tt tt1 : M Bool} {f : M D} {ρ ρ1 ρB : Sto} {ds acc : List D} (h : fs ρ = some (.ok ds ρ1)) (h2 : lc2Loop vs vs1 t tt fs1 t1 tt1 f ds [] (wipeS ρ1 vs) = some (.ok acc ρB)) : lc2M vs vs1 t fs tt fs1 t1 tt1 f ρ = some (.ok (.lst acc) (restS ρ1 vs ρB)) := bind_ok h (by simp only [h2])
theorem for_ok {t : Tgt} {fs : M (List D)} {g : M Out} {ρ ρ1 : Sto} {ds : List D} {r : Option (Res Out)} (h : fs ρ = some (.ok ds ρ1)) (h2 : forLoop t g ds ρ1 = r) : forM t fs g ρ = r := bind_ok h h2
theorem lc2_runs {β γ : Type} {vs vs1 : List Nat} {t t1 : Tgt} {fs1 : M (List D)} {f : M D} {ρ : Sto} (c : β → D) (bs2 : β → List γ) (c2 : γ → D) (g : β → γ → D) :
    ∀ (bs : List β) (acc : List D), (∀ b ∈ bs, ∃ ρ1 ρ3, t.set (c b) ρ = some ρ1 ∧ fs1 ρ1 = some (.ok ((bs2 b).map c2) ρ3) ∧ wipeS (wipeS ρ3 vs1) vs = ρ ∧
        ∀ y ∈ bs2 b, ∃ ρ5 ρ6, t1.set (c2 y) (wipeS ρ3 vs1) = some ρ5 ∧ f ρ5 = some (.ok (g b y) ρ6) ∧ wipeS ρ6 vs1 = wipeS ρ3 vs1) →
      acc.length + (bs.flatMap bs2).length ≤ 100000 →
      lc2Loop vs vs1 t (M.pure true) fs1 t1 (M.pure true) f (bs.map c) acc ρ = some (.ok (acc ++ bs.flatMap fun b => (bs2 b).map (g b)) ρ)
  | [], acc, _, _ => by simp [lc2Loop, M.pure]
  | b :: bs, acc, H, hl => by
    obtain ⟨ρ1, ρ3, e1, e2, e3, y⟩ := H b (List.mem_cons_self ..)
    rw [List.map_cons]
    unfold lc2Loop
    rw [e1]
    rw [List.flatMap_cons, List.length_append] at hl
    have z : lcLoop vs1 t1 (M.pure true) f ((bs2 b).map c2) acc (wipeS ρ3 vs1) = some (.ok (acc ++ (bs2 b).map (g b)) (wipeS ρ3 vs1)) := by
      have := lc_runs (vs := vs1) (t := t1) (tt := M.pure true) (f := f) (ρ := wipeS ρ3 vs1) c2 (fun _ => true) (g b) (bs2 b) acc (fun y' hy => by
        obtain ⟨ρ5, ρ6, a1, a2, a3⟩ := y y' hy
        exact ⟨ρ5, ρ5, a1, rfl, (fun h => by cases h), fun _ => ⟨ρ6, a2, a3⟩⟩) (by omega)
      rwa [List.filter_eq_self.mpr (fun _ _ => rfl)] at this
    show (match fs1 ρ1 with
      | some (.ok ds1 ρ3) => match lcLoop vs1 t1 (M.pure true) f ds1 acc (wipeS ρ3 vs1) with
          | some (.ok acc' ρ4) => lc2Loop vs vs1 t (M.pure true) fs1 t1 (M.pure true) f (bs.map c) acc' (wipeS ρ4 vs)
          | _ => none
      | _ => none) = _
    rw [e2]
    simp only [z]
    rw [e3, lc2_runs c bs2 c2 g bs _ (fun b h => H b (List.mem_cons_of_mem _ h)) (by rw [List.length_append, List.length_map]; omega), List.flatMap_cons, List.append_assoc]
theorem rangeL0 (n : Nat) : rangeL 0 n = (List.range n).map fun (i : Nat) => D.int i := by
  unfold rangeL
  simp
end Dn

/-! zip and enumerate over lists and tuples in any mix -/
namespace Dn
open PySem PySem.Spec PyProof.Rows L2
/-- which of the two -/
inductive Kd where
  | l | t
def SqK (k : Kd) (K : PySem.W.Frag) (H : Hp) (a : Addr) (xs : List V) : Prop := match k with
  | .l => SqL K H a xs
  | .t => SqT K H a xs
def IterK (k : Kd) (h : Heap) (it a : Addr) (i : Nat) : Prop := match k with
  | .l => h.IsListIter it a i
  | .t => h.IsTupleIter it a i
def HasK (k : Kd) (h : Heap) (a : Addr) (its : Array Value) : Prop := match k with
  | .l => h.IsList a its
  | .t => h.IsTuple a its
def objK (k : Kd) (a : Addr) : Obj := match k with
  | .l => { cls := .type "list_iterator", data := .fields #[.ref a, .int 0 0] }
  | .t => { cls := .type "tuple_iterator", data := .fields #[.ref a, .int 0 0] }
theorem beginsK (k : Kd) (a : Addr) (its : Array Value) : Begins (.ref a) (objK k a) fun h => HasK k h a its := by
  cases k
  · exact begins_list a its
  · exact begins_tuple a its
theorem iterK_0 {k : Kd} {h : Heap} {it a : Addr} (e : h.get? it = some (objK k a)) : IterK k h it a 0 := by
  cases k <;> exact ⟨_, e, rfl, rfl⟩
theorem IterK.obj {k : Kd} {h : Heap} {it a : Addr} {i : Nat} (st : IterK k h it a i) : ∃ o, h.get? it = some o ∧ ∀ v, o.data ≠ .cell v := by
  cases k
  · obtain ⟨o, e, _, d⟩ := st
    exact ⟨o, e, fun v q => by rw [d] at q; cases q⟩
  · obtain ⟨o, e, _, d⟩ := st
    exact ⟨o, e, fun v q => by rw [d] at q; cases q⟩
theorem IterK.at {k : Kd} {h h' : Heap} {it a : Addr} {i : Nat} (st : IterK k h it a i) (e : ∀ o, h.get? it = some o → h'.get? it = some o) : IterK k h' it a i := by
  cases k
  · exact Heap.IsListIter.at (h := h) st e
  · exact Heap.IsTupleIter.at (h := h) st e
theorem HasK.at {k : Kd} {h h' : Heap} {a : Addr} {its : Array Value} (st : HasK k h a its) (e : ∀ o, h.get? a = some o → h'.get? a = some o) : HasK k h' a its := by
  cases k
  · exact Heap.IsList.at (h := h) st e
  · exact Heap.IsTuple.at (h := h) st e
theorem drawsK (k : Kd) {prog : Program} {w : World} {A : Around} (hh : A.handled = none) (it a : Addr) (hne : a ≠ it) (its : Array Value) :
    Draws prog w A it [it, a] its.size (fun i v => its[i]? = some v) (fun i h => IterK k h it a i ∧ HasK k h a its) := by
  cases k
  · exact Draws.list hh it a hne its
  · exact Draws.tuple hh it a hne its
theorem seqK {X : Cx} {pins : List (Addr × Obj)} {σ : L2.St} {H : Hp} {s : Shared} (I : Inv X pins σ H s) {k : Kd} {a : Addr} {xs : List V} (h : SqK k X.K H a xs) :
    ∃ us : List Value, Vals xs us ∧ HasK k s.heap a us.toArray ∧ a < s.heap.objs.size := by
  cases k
  · obtain ⟨us, rv, p, _⟩ := I.list h
    exact ⟨us, rv, p.isList, p.lt⟩
  · obtain ⟨us, rv, p, _⟩ := I.tuple h
    obtain ⟨o, ho, _⟩ := id p
    exact ⟨us, rv, p, Heap.lt_size ho⟩
theorem SqK.inj {X : Cx} {pins : List (Addr × Obj)} {σ : L2.St} {H : Hp} {s : Shared} (I : Inv X pins σ H s) {k : Kd} {a : Addr} {xs ys : List V} (h : SqK k X.K H a xs) (h' : SqK k X.K H a ys) : xs = ys := by
  cases k
  · exact I.list_inj h h'
  · exact I.tuple_inj h h'

/-! ### zip -/
def ItZ (k j : Kd) (K : PySem.W.Frag) (a b : Addr) : It :=
  ⟨fun i H => ∃ xs ys x y, SqK k K H a xs ∧ SqK j K H b ys ∧ xs[i]? = some x ∧ ys[i]? = some y,
   fun i H v H' => ∃ p x y, v = .ref p ∧ H p = none ∧ H' = upd H p (.tup [x, y]) ∧ (∀ xs, SqK k K H a xs → xs[i]? = some x) ∧ (∀ ys, SqK j K H b ys → ys[i]? = some y),
   fun i H => ∃ xs ys, SqK k K H a xs ∧ SqK j K H b ys ∧ i ≤ xs.length ∧ i ≤ ys.length ∧ (i = xs.length ∨ i = ys.length)⟩
def ZTurn (k j : Kd) (z p q u v a b : Addr) (i : Nat) (h : Heap) : Prop := IsZip h z p q .none ∧ IsPair h p (.ref u) (.ref v) ∧ (∃ x y, IsPair h q x y) ∧ IterK k h u a i ∧ IterK j h v b i
theorem zip_sep {z p q u v a b : Addr} (D : ZipApart z p q u v a b) : ZipSep2 z p q u v [u, a] [v, b] where
  TIz := D.TIz
  TOz := D.TOz
  TITO := D.TITO
  TIi1 := D.TIi1
  mem1 := by simp
  zf1 := by simp [D.i1z.symm, D.l1z.symm]
  Tf1 := by simp [D.TOi1, D.l1TO.symm]
  TIi2 := D.TIi2
  mem2 := by simp
  zf2 := by simp [D.i2z.symm, D.l2z.symm]
  Tf2 := by simp [D.TOi2, D.l2TO.symm]
  sep1_2 := by simp [D.i12, D.l2i1.symm]
  sep2_1 := by simp [D.i12.symm, D.l1i2.symm]
theorem five {α : Type} {a b c d e x : α} : x ∈ [a, b, c, d, e] ↔ x = a ∨ x = b ∨ x = c ∨ x = d ∨ x = e := by simp
theorem turnZ {P : Program} {w : World} {K : PySem.W.Frag} {elts : List Expr} {kk : Nat} {tp : Pos} {k j : Kd} {z p q u v a b : Addr} (D : ZipApart z p q u v a b) : Turn P w K (.Tuple elts kk tp) (ItZ k j K a b) [z, p, q, u, v] z (ZTurn k j z p q u v a b) where
  mem := List.mem_cons_self ..
  obj := fun i h ⟨hz, hp, ⟨x, y, hq⟩, h1, h2⟩ c hc => by
    rcases five.mp hc with rfl | rfl | rfl | rfl | rfl
    · exact ⟨_, hz, fun _ n => (nomatch n)⟩
    · exact ⟨_, hp, fun _ n => (nomatch n)⟩
    · exact ⟨_, hq, fun _ n => (nomatch n)⟩
    · exact h1.obj
    · exact h2.obj
  keep := fun i h h' ⟨hz, hp, ⟨x, y, hq⟩, h1, h2⟩ g =>
    ⟨g _ (five.mpr (.inl rfl)) _ hz, g _ (five.mpr (.inr (.inl rfl))) _ hp, ⟨x, y, g _ (five.mpr (.inr (.inr (.inl rfl)))) _ hq⟩, h1.at fun o e => g _ (five.mpr (.inr (.inr (.inr (.inl rfl))))) o e, h2.at fun o e => g _ (five.mpr (.inr (.inr (.inr (.inr rfl))))) o e⟩
  item := by
    intro X eP ew eK calm i pins s σ H E I free st go
    subst eP ew eK
    obtain ⟨hz, hp, ⟨x0, y0, hq⟩, h1, h2⟩ := st
    obtain ⟨xs, ys, x, y, sx, sy, gx, gy⟩ := go
    obtain ⟨us, rx, c1, l1⟩ := seqK I sx
    obtain ⟨ws, ry, c2, l2⟩ := seqK I sy
    obtain ⟨ux, e1, r1⟩ := rx.get gx
    obtain ⟨uy, e2, r2⟩ := ry.get gy
    have hd : X.A.in1.handled = none := I.ok.hd calm
    have zl : z < s.heap.objs.size := Heap.lt_size hz
    have b1 : i < us.toArray.size := by
      have := (List.getElem?_eq_some_iff.mp e1).1
      simpa using this
    have b2 : i < ws.toArray.size := by
      have := (List.getElem?_eq_some_iff.mp e2).1
      simpa using this
    refine wpAny_pyNext_zipD2_item (zip_sep D) (drawsK k hd u a D.l1i1 us.toArray) (drawsK j hd v b D.l2i2 ws.toArray) hz hp hq ⟨h1, c1⟩ ⟨h2, c2⟩ b1 b2 fun vx vy h' tk px py z1 q1 st1 st2 new sz kept => ?_
    have ex : ux = vx := by
      have : some ux = some vx := by rw [← e1, ← px]; simp
      exact Option.some.inj this
    have ey : uy = vy := by
      have : some uy = some vy := by rw [← e2, ← py]; simp
      exact Option.some.inj this
    subst ex ey
    refine ⟨_, rfl, wpAny_letOwnedTupleGo_zip (s := { s with heap := h', toks := tk }) z1 fun h'' z2 sb => ?_⟩
    have up : ∀ c o, c ≠ z → h'.get? c = some o → h''.get? c = some o := fun c o n e => (sb.2 c n).trans e
    have T2 := up _ _ (Nat.ne_of_gt zl) new
    have made : ObjOk X.prog X.w (upd H s.heap.objs.size (.tup [x, y])) h'' s.heap.objs.size (.tup [x, y]) := ⟨by show 2 ≤ sizeLine; decide, [ux, uy], .cons r1 (.cons r2 .nil), ⟨_, T2, rfl, _, rfl⟩⟩
    have I2 : Inv X pins σ (upd H s.heap.objs.size (.tup [x, y])) { s with heap := h'', toks := tk } := I.turnedNew (ch := [z, p, q, u, v]) (fun c o n e => by
      have n' : ¬ (c = z ∨ c = p ∨ c = q ∨ c = u ∨ c = v) := fun g => n (five.mpr g)
      simp only [not_or] at n'
      exact up c o n'.1 (kept c o n'.1 n'.2.2.1 n'.2.2.2.1 n'.2.2.2.2 e)) free (Nat.le_refl _) made
    refine ⟨.ref s.heap.objs.size, _, I2, rfl, ⟨_, x, y, rfl, I.hok.fresh (Nat.le_refl _), rfl, fun l hl => by rw [SqK.inj I hl sx]; exact gx, fun l hl => by rw [SqK.inj I hl sy]; exact gy⟩, ⟨z2, up _ _ D.TIz (kept _ _ D.TIz D.TITO D.TIi1 D.TIi2 hp), ⟨ux, uy, up _ _ D.TOz q1⟩, st1.1.at fun o e => up _ o D.i1z e, st2.1.at fun o e => up _ o D.i2z e⟩, fun c hc => ?_⟩
    have lt : c < s.heap.objs.size := by
      rcases five.mp hc with rfl | rfl | rfl | rfl | rfl
      · exact zl
      · exact Heap.lt_size hp
      · exact Heap.lt_size hq
      · obtain ⟨_, e, _⟩ := h1.obj; exact Heap.lt_size e
      · obtain ⟨_, e, _⟩ := h2.obj; exact Heap.lt_size e
    rw [upd_ne (Nat.ne_of_lt lt)]
    exact (free c hc).1
  done := by
    intro X eP ew eK calm i pins s σ H E I free st go
    subst eP ew eK
    obtain ⟨hz, hp, ⟨x0, y0, hq⟩, h1, h2⟩ := st
    obtain ⟨xs, ys, sx, sy, g1, g2, g3⟩ := go
    obtain ⟨us, rx, c1, l1⟩ := seqK I sx
    obtain ⟨ws, ry, c2, l2⟩ := seqK I sy
    have hd : X.A.in1.handled = none := I.ok.hd calm
    have n1 : us.toArray.size = xs.length := by rw [rx.length]; simp
    have n2 : ws.toArray.size = ys.length := by rw [ry.length]; simp
    refine wpAny_pyNext_zipD2_end (zip_sep D) (drawsK k hd u a D.l1i1 us.toArray) (drawsK j hd v b D.l2i2 ws.toArray) hz hp hq ⟨h1, c1⟩ ⟨h2, c2⟩ (by omega) (by omega) (by omega) fun h' tk kept => ⟨rfl, I.turnedL (ch := [z, p, q, u, v]) (fun c o n e => by
      have n' : ¬ (c = z ∨ c = p ∨ c = q ∨ c = u ∨ c = v) := fun g => n (five.mpr g)
      simp only [not_or] at n'
      exact kept c o n'.1 n'.2.2.1 n'.2.2.2.1 n'.2.2.2.2 e) free⟩
  self := fun A i s Q E st h => wpAny_pyIter_zip st.1 h
def iZ (K : PySem.W.Frag) (ta : TA) : TI := fun σ H R => ta σ H fun vs H1 => ∃ k j a b xs ys, vs = [.ref a, .ref b] ∧ SqK k K H1 a xs ∧ SqK j K H1 b ys ∧ R (ItZ k j K a b) H1
theorem pi_z {X : Cx} {e e2 : Expr} {ta : TA} {p pos tp : Pos} {elts : List Expr} {kk : Nat} (hg : Gl X "zip") (hm : X.mg "zip" = none) (ha : PA X [e, e2] ta)
    (he : starEach [e, e2] X.env = (false, eval e X.env) :: starEach [e2] X.env := by rfl) (hp : (backTo pos (starEach [e2] X.env)).any (·.1) = false := by rfl) : PI X (.Tuple elts kk tp) (.Call (.Name "zip" p) [e, e2] [] pos) (iZ X.K ta) :=
  ⟨fun pins s σ H R I h => Call_ (ld_blt I hg hm PyProof.Rows.boot_zip (PyProof.Rows.callWith_type1 (thn (ha.run pos pins s σ H _ I h) fun us s1 ⟨vs, H1, I1, r1, k, j, a, b, xs, ys, ev, sx, sy, q⟩ => by
    subst ev
    cases r1 with
    | cons ra rb =>
      cases rb with
      | cons rb rc =>
        cases rc
        cases ra
        cases rb
        obtain ⟨us, _, c1, l1⟩ := seqK I1 sx
        obtain ⟨ws, _, c2, l2⟩ := seqK I1 sy
        refine zip_begins2 (beginsK k a us.toArray) (beginsK j b ws.toArray) c1 c2 fun h' z1 p1 q1 i1 i2 sz kept => wpAny_pyIter_zip z1 ?_
        refine ⟨_, [s1.heap.objs.size + 4, s1.heap.objs.size + 2, s1.heap.objs.size + 3, s1.heap.objs.size, s1.heap.objs.size + 1], _, _, H1, rfl, I1.kept (t' := s1.toks) kept, turnZ (PySem.W.ktu_apart s1.heap.objs.size a b l1 l2), ⟨z1, p1, ⟨_, _, q1⟩, iterK_0 i1, iterK_0 i2⟩, fun c hc => ?_, q⟩
        have le : s1.heap.objs.size ≤ c := by
          rcases five.mp hc with rfl | rfl | rfl | rfl | rfl
          all_goals omega
        exact I1.fpOk le (I1.hok.fresh le)) he hp))⟩
/-! ### enumerate -/
def ItE (k : Kd) (K : PySem.W.Frag) (a : Addr) : It :=
  ⟨fun i H => ∃ xs x, SqK k K H a xs ∧ xs[i]? = some x,
   fun i H v H' => ∃ p x, v = .ref p ∧ H p = none ∧ H' = upd H p (.tup [.int (i : Nat), x]) ∧ ∀ xs, SqK k K H a xs → xs[i]? = some x,
   fun i H => ∃ xs, SqK k K H a xs ∧ i = xs.length⟩
def ETurn (k : Kd) (e u a : Addr) (i : Nat) (h : Heap) : Prop := (∃ old, IsEnum h e u ((i : Nat) : Int) old) ∧ IterK k h u a i ∧ e ≠ u ∧ a ≠ u ∧ a ≠ e
theorem two {α : Type} {a b x : α} : x ∈ [a, b] ↔ x = a ∨ x = b := by simp
theorem turnE {P : Program} {w : World} {K : PySem.W.Frag} {elts : List Expr} {kk : Nat} {tp : Pos} {k : Kd} {e u a : Addr} : Turn P w K (.Tuple elts kk tp) (ItE k K a) [e, u] e (ETurn k e u a) where
  mem := List.mem_cons_self ..
  obj := fun i h ⟨⟨old, he⟩, h1, _⟩ c hc => by
    rcases two.mp hc with rfl | rfl
    · exact ⟨_, he, fun _ n => (nomatch n)⟩
    · exact h1.obj
  keep := fun i h h' ⟨⟨old, he⟩, h1, n⟩ g => ⟨⟨old, g _ (two.mpr (.inl rfl)) _ he⟩, h1.at fun o q => g _ (two.mpr (.inr rfl)) o q, n⟩
  item := by
    intro X eP ew eK calm i pins s σ H E I free st go
    subst eP ew eK
    obtain ⟨⟨old, he⟩, h1, neu, nau, nae⟩ := st
    obtain ⟨xs, x, sx, gx⟩ := go
    obtain ⟨us, rx, c1, l1⟩ := seqK I sx
    obtain ⟨ux, e1, r1⟩ := rx.get gx
    have hd : X.A.in1.handled = none := I.ok.hd calm
    have el : e < s.heap.objs.size := Heap.lt_size he
    have b1 : i < us.toArray.size := by
      have := (List.getElem?_eq_some_iff.mp e1).1
      simpa using this
    refine wpAny_pyNext_enum_itemD (drawsK k hd u a nau us.toArray) he ⟨h1, c1⟩ b1 neu (by simp [neu, nae.symm]) fun vx h' tk px out st1 new sz kept => ?_
    have ex : ux = vx := by
      have : some ux = some vx := by rw [← e1, ← px]; simp
      exact Option.some.inj this
    subst ex
    refine ⟨_, rfl, wpAny_letOwnedTupleGo_enum (s := { s with heap := h', toks := tk + 1 }) out fun h'' he' sb => ?_⟩
    have up : ∀ c o, c ≠ e → h'.get? c = some o → h''.get? c = some o := fun c o n g => (sb.2 c n).trans g
    have T2 := up _ _ (Nat.ne_of_gt el) new
    have made : ObjOk X.prog X.w (upd H s.heap.objs.size (.tup [.int (i : Nat), x])) h'' s.heap.objs.size (.tup [.int (i : Nat), x]) := ⟨by show 2 ≤ sizeLine; decide, [.int i tk, ux], .cons ⟨_, rfl⟩ (.cons r1 .nil), ⟨_, T2, rfl, _, rfl⟩⟩
    have I2 : Inv X pins σ (upd H s.heap.objs.size (.tup [.int (i : Nat), x])) { s with heap := h'', toks := tk + 1 } := I.turnedNew (ch := [e, u]) (fun c o n g => by
      have n' : ¬ (c = e ∨ c = u) := fun g => n (two.mpr g)
      simp only [not_or] at n'
      exact up c o n'.1 (kept c o n'.1 n'.2 g)) free (Nat.le_refl _) made
    refine ⟨.ref s.heap.objs.size, _, I2, rfl, ⟨_, x, rfl, I.hok.fresh (Nat.le_refl _), rfl, fun l hl => by rw [SqK.inj I hl sx]; exact gx⟩, ⟨⟨ux, ?_⟩, st1.1.at fun o g => up _ o neu.symm g, neu, nau, nae⟩, fun c hc => ?_⟩
    · have e3 : ((i + 1 : Nat) : Int) = (i : Int) + 1 := by omega
      rw [e3]
      exact he'
    · have lt : c < s.heap.objs.size := by
        rcases two.mp hc with rfl | rfl
        · exact el
        · obtain ⟨_, g, _⟩ := h1.obj; exact Heap.lt_size g
      rw [upd_ne (Nat.ne_of_lt lt)]
      exact (free c hc).1
  done := by
    intro X eP ew eK calm i pins s σ H E I free st go
    subst eP ew eK
    obtain ⟨⟨old, he⟩, h1, neu, nau, nae⟩ := st
    obtain ⟨xs, sx, g1⟩ := go
    obtain ⟨us, rx, c1, l1⟩ := seqK I sx
    have hd : X.A.in1.handled = none := I.ok.hd calm
    have n1 : us.toArray.size = xs.length := by rw [rx.length]; simp
    have ei : i = us.toArray.size := by omega
    subst ei
    refine wpAny_pyNext_enum_endD (drawsK k hd u a nau us.toArray) he ⟨h1, c1⟩ fun h' eb => ⟨rfl, I.turnedL (t' := s.toks) (ch := [e, u]) (fun c o n g => eb c o (fun q => n (by simp [q])) g) free⟩
  self := fun A i s Q E st h => let ⟨⟨_, he⟩, _⟩ := st; wpAny_pyIter_enum he h
theorem meets_en {v : Value} {o : Obj} {T : Heap → Prop} (B : Begins v o T) :
    Meets (Builtin.«enumerate.__new__» ⟨[.type "enumerate", v], []⟩) fun _ R s => T s.heap ∧ R (.ok (.ret (.ref (s.heap.push o).objs.size)))
      { s with heap := (s.heap.push o).push { cls := .type "enumerate", data := .fields #[.none, .bool false, .ref s.heap.objs.size, rawInt 0, .none, .none] } } :=
  .of_wp fun prog w A R s r => by
    obtain ⟨h0, gg, dd, t0, o0⟩ := s
    obtain ⟨r1, r2⟩ := r
    have sb := sub_enumerate
    have it : ∀ {A' : Around} {E' : Value → Shared → Prop} {Q' : Value → Shared → Prop}, Q' (.ref h0.objs.size) ⟨h0.push o, gg, dd, t0, o0⟩ → wpAny (model prog w) A' (pyIter v) Q' E' ⟨h0, gg, dd, t0, o0⟩ := fun q => B.iter prog w _ _ ⟨h0, gg, dd, t0, o0⟩ _ r1 q
    wp_walk using it
    refine wpAny_stack_any fun _ => wpAny_pure ?_
    split
    · rename_i c _ _ _ _ _
      cases c == Value.type "enumerate" <;> (wp_walk using it; exact ⟨_, rfl, r2⟩)
    · wp_walk using it
      exact ⟨_, rfl, r2⟩
theorem call_en {prog : Program} {w : World} {A : Around} {E : Value → Shared → Prop} {s : Shared} {v : Value} {o : Obj} {T : Heap → Prop} {Q : Value → Shared → Prop} (B : Begins v o T) (h1 : T s.heap)
    (q : ∀ h', IsEnum h' (s.heap.objs.size + 1) s.heap.objs.size 0 .none → h'.get? s.heap.objs.size = some o → (∀ c o', s.heap.get? c = some o' → h'.get? c = some o') → Q (.ref (s.heap.objs.size + 1)) { s with heap := h' }) :
    wpAny (model prog w) A (call (.type "enumerate") [v]) Q E s := by
  refine callType_new F.called_enumerate (by decide) (F.typeCall_enumerate_1 _) (F.newCall_enumerate_1 _) (fun x => F.args_object_init_2 x _) F.entry_enumerate_new (meets_en B) ⟨h1, ?_⟩
  have z1 : (s.heap.push o).objs.size = s.heap.objs.size + 1 := Heap.size_push ..
  have en : IsEnum ((s.heap.push o).push { cls := .type "enumerate", data := .fields #[.none, .bool false, .ref s.heap.objs.size, rawInt 0, .none, .none] }) (s.heap.push o).objs.size s.heap.objs.size 0 .none := Heap.get?_push_size _ rfl
  rw [z1] at en
  show _ ∧ _
  rw [z1]
  exact ⟨⟨_, en, rfl⟩, q _ en (Heap.get?_push_of_some _ (Heap.get?_push_size _ B.free)) fun c o' g => Heap.get?_push_of_some _ (Heap.get?_push_of_some _ g)⟩
def iE (K : PySem.W.Frag) (ta : TA) : TI := fun σ H R => ta σ H fun vs H1 => ∃ k a xs, vs = [.ref a] ∧ SqK k K H1 a xs ∧ R (ItE k K a) H1
theorem pi_e {X : Cx} {e : Expr} {ta : TA} {p pos tp : Pos} {elts : List Expr} {kk : Nat} (hg : Gl X "enumerate") (hm : X.mg "enumerate" = none) (ha : PA X [e] ta) (he : starEach [e] X.env = [(false, eval e X.env)] := by rfl) :
    PI X (.Tuple elts kk tp) (.Call (.Name "enumerate" p) [e] [] pos) (iE X.K ta) :=
  ⟨fun pins s σ H R I h => Call_ (ld_blt I hg hm boot_enumerate (PyProof.Rows.callWith_type1 (thn (ha.run pos pins s σ H _ I h) fun us s1 ⟨vs, H1, I1, r1, k, a, xs, ev, sx, q⟩ => by
    subst ev
    cases r1 with
    | cons ra rb =>
      cases rb
      cases ra
      obtain ⟨us, _, c1, l1⟩ := seqK I1 sx
      refine call_en (beginsK k a us.toArray) c1 fun h' en i1 kept => wpAny_pyIter_enum en ?_
      refine ⟨_, [s1.heap.objs.size + 1, s1.heap.objs.size], _, _, H1, rfl, I1.kept (t' := s1.toks) kept, turnE (k := k) (a := a) (e := s1.heap.objs.size + 1) (u := s1.heap.objs.size), ⟨⟨.none, en⟩, iterK_0 i1, Nat.succ_ne_self _, Nat.ne_of_lt l1, Nat.ne_of_lt (Nat.lt_succ_of_lt l1)⟩, fun c hc => ?_, q⟩
      have le : s1.heap.objs.size ≤ c := by
        rcases two.mp hc with rfl | rfl
        all_goals omega
      exact I1.fpOk le (I1.hok.fresh le)) he rfl))⟩
/-! ### the data -/
section
variable {bb : Bool} {X : Cx} {G : Gx} {W : WX} {k : Nat} {pos p p2 tp : Pos} {a b c e : Expr} {es elts : List Expr} {kk : Nat} {fs : M (List D)}
theorem Rp.seq {K : PySem.W.Frag} {F : Hp} {v : V} {d : D} {l : List D} (r : Rp K F v d) (e : itemsD d = some l) : ∃ k a xs, v = .ref a ∧ RpA K F xs l ∧ ∀ H, Same F H → SqK k K H a xs := by
  cases r <;> simp only [itemsD, reduceCtorEq, Option.some.injEq] at e
  · rename_i a xs ds h r
    subst e
    exact ⟨.t, a, xs, rfl, r, fun H s => .of (s _ _ h)⟩
  · rename_i a xs ds h r
    subst e
    exact ⟨.l, a, xs, rfl, r, fun H s => .of (s _ _ h)⟩
def zipL (xs ys : List D) : List D := List.zipWith (fun x y => .tup [x, y]) xs ys
def zipD : List D → Option (List D)
  | [a, b] => match itemsD a, itemsD b with
    | some x, some y => some (zipL x y)
    | _, _ => none
  | _ => none
def enumL (xs : List D) : List D := List.zipWith (fun (i : Nat) x => .tup [.int i, x]) (List.range xs.length) xs
def enumD : List D → Option (List D)
  | [a] => (itemsD a).map enumL
  | _ => none
theorem iter_zip {K : PySem.W.Frag} {F : Hp} {k j : Kd} {a b : Addr} {xs ys : List V} {l m : List D} (h1 : ∀ H, Same F H → SqK k K H a xs) (h2 : ∀ H, Same F H → SqK j K H b ys) (r1 : RpA K F xs l) (r2 : RpA K F ys m) : IterOf K F (zipL l m) (ItZ k j K a b) := fun i Fc Hc s1 s2 => by
  have e1 := h1 Hc (s1.trans s2)
  have e2 := h2 Hc (s1.trans s2)
  refine ⟨fun d hd => ?_, fun hl => ⟨xs, ys, e1, e2, ?_⟩⟩
  · unfold zipL at hd
    rw [List.getElem?_zipWith] at hd
    cases hx : l[i]? with
    | none => rw [hx] at hd; simp at hd
    | some dx =>
      cases hy : m[i]? with
      | none => rw [hx, hy] at hd; simp at hd
      | some dy =>
        rw [hx, hy] at hd
        simp only [Option.some.injEq] at hd
        subst hd
        obtain ⟨vx, gx, rx⟩ := r1.get hx
        obtain ⟨vy, gy, ry⟩ := r2.get hy
        refine ⟨⟨xs, ys, vx, vy, e1, e2, gx, gy⟩, fun x H' ⟨q, x', y', ev, hq, eH, f1, f2⟩ => ?_⟩
        have ex : vx = x' := Option.some.inj (gx.symm.trans (f1 xs e1))
        have ey : vy = y' := Option.some.inj (gy.symm.trans (f2 ys e2))
        subst ev eH ex ey
        have ext := Ext.new (.tup [vx, vy]) s2 hq
        exact ⟨_, ext, .tup upd_same (.cons ((rx.mono s1).mono ext.f) (.one ((ry.mono s1).mono ext.f)))⟩
  · unfold zipL at hl
    rw [List.length_zipWith] at hl
    rw [r1.length, r2.length]
    omega
theorem iter_enum {K : PySem.W.Frag} {F : Hp} {k : Kd} {a : Addr} {xs : List V} {l : List D} (h1 : ∀ H, Same F H → SqK k K H a xs) (r1 : RpA K F xs l) : IterOf K F (enumL l) (ItE k K a) := fun i Fc Hc s1 s2 => by
  have e1 := h1 Hc (s1.trans s2)
  refine ⟨fun d hd => ?_, fun hl => ⟨xs, e1, ?_⟩⟩
  · unfold enumL at hd
    rw [List.getElem?_zipWith] at hd
    cases hx : l[i]? with
    | none => rw [hx] at hd; simp at hd
    | some dx =>
      have hi : i < l.length := (List.getElem?_eq_some_iff.mp hx).1
      rw [hx, List.getElem?_range hi] at hd
      simp only [Option.some.injEq] at hd
      subst hd
      obtain ⟨vx, gx, rx⟩ := r1.get hx
      refine ⟨⟨xs, vx, e1, gx⟩, fun x H' ⟨q, x', ev, hq, eH, f1⟩ => ?_⟩
      have ex : vx = x' := Option.some.inj (gx.symm.trans (f1 xs e1))
      subst ev eH ex
      have ext := Ext.new (.tup [.int (i : Nat), vx]) s2 hq
      exact ⟨_, ext, .tup upd_same (.cons (.int _) (.one ((rx.mono s1).mono ext.f)))⟩
  · unfold enumL at hl
    rw [List.length_zipWith, List.length_range] at hl
    rw [r1.length]
    omega
theorem ew_zip (c : Kx bb X G W k) (hm : X.mg "zip" = none) (ha : PA X [a, b] (tA G W fs)) (hg : Gl X "zip" := by rfl) (he : starEach [a, b] X.env = (false, eval a X.env) :: starEach [b] X.env := by rfl) (hp : (backTo pos (starEach [b] X.env)).any (·.1) = false := by rfl) :
    PI X (.Tuple elts kk tp) (.Call (.Name "zip" p) [a, b] [] pos) (tW G W (rngM zipD fs)) :=
  ⟨fun pins s σ H R I ⟨F, ρ, τ, R0, q⟩ => (pi_z hg hm ha he hp).run pins s σ H R I ⟨F, ρ, τ, R0, (Fin.bind q).imp fun ds ρ1 F1 H1 s1 R1 q1 vs rvs => by
    obtain ⟨l, e, z⟩ := Fin.lift q1
    have z' := z F1 H1 (Same.refl _) R1
    unfold zipD at e
    split at e
    · split at e
      · rename_i x y hx hy
        cases e
        cases rvs with
        | cons r1 r2 =>
          cases r2 with
          | cons r2 r3 =>
            cases r3
            obtain ⟨k, a, xs, rfl, ra, sa⟩ := r1.seq hx
            obtain ⟨j, b, ys, rfl, rb, sb⟩ := r2.seq hy
            rw [← c.hK]
            exact ⟨k, j, a, b, xs, ys, rfl, sa H1 R1.sub, sb H1 R1.sub, z' _ (iter_zip sa sb ra rb)⟩
      · cases e
    · cases e⟩⟩
theorem ew_enum (c : Kx bb X G W k) (hm : X.mg "enumerate" = none) (ha : PA X [a] (tA G W fs)) (hg : Gl X "enumerate" := by rfl) (he : starEach [a] X.env = [(false, eval a X.env)] := by rfl) :
    PI X (.Tuple elts kk tp) (.Call (.Name "enumerate" p) [a] [] pos) (tW G W (rngM enumD fs)) :=
  ⟨fun pins s σ H R I ⟨F, ρ, τ, R0, q⟩ => (pi_e hg hm ha he).run pins s σ H R I ⟨F, ρ, τ, R0, (Fin.bind q).imp fun ds ρ1 F1 H1 s1 R1 q1 vs rvs => by
    obtain ⟨l, e, z⟩ := Fin.lift q1
    have z' := z F1 H1 (Same.refl _) R1
    unfold enumD at e
    split at e
    · obtain ⟨x, hx, e⟩ := Option.map_eq_some_iff.mp e
      subst e
      cases rvs with
      | cons r1 r2 =>
        cases r2
        obtain ⟨k, a, xs, rfl, ra, sa⟩ := r1.seq hx
        rw [← c.hK]
        exact ⟨k, a, xs, rfl, sa H1 R1.sub, z' _ (iter_enum sa ra)⟩
    · cases e⟩⟩
end
end Dn

/-! slices by -1, repeated tuples -/
namespace Dn
open PySem PySem.Spec PyProof.Rows L2
def backIx (n : Nat) (lo hi : Option Int) : List Nat := sliceRange (sliceBounds lo hi (some (-1)) n).1 (sliceBounds lo hi (some (-1)) n).2.1 (sliceBounds lo hi (some (-1)) n).2.2
def backL {α : Type} (xs : List α) (lo hi : Option Int) : List α := (backIx xs.length lo hi).filterMap fun i => xs[i]?
def backD (a : D) (lo hi : Option Int) : Option D := match a with
  | .lst l => if (backL l lo hi).length ≤ 100000 ∧ l.length ≤ 100000 then some (.lst (backL l lo hi)) else none
  | _ => none
def backM (f : M D) (lo hi : M (Option Int)) : M D := M.bind f fun a => M.bind lo fun l => M.bind hi fun h => M.lift (backD a l h)
theorem vals_pick {xs : List V} {us : List Value} (h : Vals xs us) : ∀ ix : List Nat, Vals (ix.filterMap fun i => xs[i]?) (ix.filterMap fun i => us[i]?)
  | [] => .nil
  | i :: ix => by
    have z := vals_pick h ix
    have hl := h.length
    by_cases hi : i < xs.length
    · obtain ⟨y, hy, r⟩ := h.get (List.getElem?_eq_getElem hi)
      rw [List.filterMap_cons_some (List.getElem?_eq_getElem hi), List.filterMap_cons_some hy]
      exact .cons r z
    · rw [List.filterMap_cons_none (List.getElem?_eq_none (by omega)), List.filterMap_cons_none (List.getElem?_eq_none (by omega))]
      exact z
theorem RpA.pick {K : PySem.W.Frag} {F : Hp} {vs : List V} {ds : List D} (h : RpA K F vs ds) : ∀ ix : List Nat, RpA K F (ix.filterMap fun i => vs[i]?) (ix.filterMap fun i => ds[i]?)
  | [] => .nil
  | i :: ix => by
    have z := RpA.pick h ix
    have hl := h.length
    by_cases hi : i < ds.length
    · obtain ⟨y, hy, r⟩ := h.get (List.getElem?_eq_getElem hi)
      rw [List.filterMap_cons_some hy, List.filterMap_cons_some (List.getElem?_eq_getElem hi)]
      exact .cons r z
    · rw [List.filterMap_cons_none (List.getElem?_eq_none (by omega)), List.filterMap_cons_none (List.getElem?_eq_none (by omega))]
      exact z
theorem RpA.back {K : PySem.W.Frag} {F : Hp} {vs : List V} {ds : List D} (h : RpA K F vs ds) (lo hi : Option Int) : RpA K F (backL vs lo hi) (backL ds lo hi) := by
  unfold backL
  rw [h.length]
  exact h.pick _
section
variable {bb : Bool} {X : Cx} {G : Gx} {W : WX} {k : Nat} {pos p p2 p3 : Pos} {a b c e : Expr} {fa fb f : M D} {j : Nat}
def tBack (K : PySem.W.Frag) (te : TE) (tl th : TO) : TE := fun σ H Q => te σ H fun x H1 => tl σ H1 fun l H2 => th σ H2 fun h H3 => ∃ a xs, x = .ref a ∧ SqL K H3 a xs ∧ xs.length ≤ 100000 ∧ (backL xs l h).length ≤ 100000 ∧ ∀ q, H3 q = none → Q (.ref q) (upd H3 q (.lst (backL xs l h)))
theorem pe_back {te : TE} {lo hi : Option Expr} {tl th : TO} (he : PE X e te) (hl : PO X lo tl) (hh : PO X hi th) : PE X (.Subscript e (.Slice lo hi (some (.UnaryOp .USub (.Constant (.int 1) j p) p2)) p3) pos) (tBack X.K te tl th) :=
  ⟨fun pins s σ H Q I h => Subscript_ (thn (he.run pins s σ H _ I h) fun v s1 ⟨x, H1, I1, r1, q⟩ => by
    refine wpAny_Slice (thn (hl.run pins s1 σ H1 _ I1 q) fun vl s2 ⟨l, H2, I2, pl, q2⟩ => thn (hh.run pins s2 σ H2 _ I2 q2) fun vh s3 ⟨u, H3, I3, pu, q3⟩ => ?_)
    have st : PO X (some (.UnaryOp .USub (.Constant (.int 1) j p) p2)) (tPart (tUn (rU fun i => .int (-i)) (tC (.int 1)))) := po_some (pe_un un_neg pe_int)
    refine thn (st.run pins s3 σ H3 (fun o H4 => o = some (-1) ∧ H4 = H3) I3 ⟨1, rfl, -1, rfl, rfl, rfl⟩) fun vs s4 ⟨o, H4, I4, ps, eo, e4⟩ => ?_
    subst eo e4
    obtain ⟨a, xs, ex, hx, n1, n2, q4⟩ := q3
    subst ex
    cases r1
    have J : Inv X pins σ H4 { s4 with heap := s4.heap.push { cls := .type "slice", data := .fields #[vl, vh, vs] } } := I4.kept (t' := s4.toks) fun c o g => Heap.get?_push_of_some _ g
    obtain ⟨us, r, pl1, _⟩ := J.list hx
    have ln := r.length
    have big : us.toArray.size ≤ sizeLine := by
      rw [List.size_toArray, ← ln]
      exact Nat.le_of_lt (ltline n1)
    refine tail_any (ops := [.ref a, .ref s4.heap.objs.size]) pl1.isList.typeIs PySem.slot_list_getitem.lookup ?_ (by with_unfolding_all rfl)
    refine wpAny_getItem_list_slice pl1.isList (Heap.IsSliceOf.new _ vl vh vs) pl pu ps (by decide) ?_ big
    have eq : slicePick us.toArray l u (some (-1)) = (backL us l u).toArray := by
      unfold slicePick backL backIx
      simp
    have rv : Vals (backL xs l u) (backL us l u) := by
      unfold backL
      rw [← ln]
      exact vals_pick r _
    rw [eq]
    refine ⟨.ref _, _, J.laid (t' := s4.toks) (o := .lst (backL xs l u)) (fun c o g => Heap.get?_push_of_some _ g) (Nat.le_refl _) ?_, rfl, q4 _ (J.hok.fresh (Nat.le_refl _))⟩
    exact ⟨Nat.le_of_lt (ltline n2), _, 0, rv, Heap.get?_push_size _ rfl⟩)⟩
theorem ei_back {lo hi : Option Expr} {fl fh : M (Option Int)} (c : Kx bb X G W k) (ha : PE X a (tI G W fa)) (hl : PO X lo (tO G W fl)) (hh : PO X hi (tO G W fh)) : PE X (.Subscript a (.Slice lo hi (some (.UnaryOp .USub (.Constant (.int 1) j p) p2)) p3) pos) (tI G W (backM fa fl fh)) :=
  PE.imp (pe_back ha hl hh) fun σ H Q ⟨F, ρ, τ, R, q⟩ => ⟨F, ρ, τ, R, (Fin.bind q).imp fun a ρ1 F1 H1 s1 R1 q1 v rv => ⟨F1, ρ1, τ, R1, (Fin.bind q1).imp fun l ρ2 F2 H2 s2 R2 q2 => ⟨F2, ρ2, τ, R2, (Fin.bind q2).imp fun h ρ3 F3 H3 s3 R3 q3 => by
  obtain ⟨d, e, z⟩ := Fin.lift q3
  have r3 := rv.mono (s2.trans s3)
  unfold backD at e
  split at e
  · split at e
    · rename_i hn
      cases e
      cases r3 with
      | lst g r =>
        have ln := r.length
        have eb := r.back l h
        refine ⟨_, _, rfl, .of (R3.sub _ _ g), by rw [ln]; exact hn.2, by rw [eb.length]; exact hn.1, fun p hp => ?_⟩
        have ex := fun o => Ext.new o R3.sub hp
        exact z _ _ (ex _).f (R3.ext (ex _)) _ (.lst upd_same (eb.mono (ex _).f))
    · cases e
  · cases e⟩⟩⟩
/-- a tuple so many times -/
def repD (a b : D) : Option D := match a, b with
  | .tup l, .int i => if l ≠ [] ∧ 2 ≤ i ∧ i ≤ 1000 ∧ l.length ≤ 1000 then some (.tup (List.replicate i.toNat l).flatten) else none
  | _, _ => none
theorem RpA.flat {K : PySem.W.Frag} {F : Hp} {vs : List V} {ds : List D} (h : RpA K F vs ds) : ∀ n : Nat, RpA K F (List.replicate n vs).flatten (List.replicate n ds).flatten
  | 0 => .nil
  | n + 1 => by
    rw [List.replicate_succ, List.replicate_succ, List.flatten_cons, List.flatten_cons]
    exact h.append (RpA.flat h n)
theorem ei_rep (c : Kx bb X G W k) (ha : PE X a (tI G W fa)) (hb : PE X b (tI G W fb)) : PE X (.BinOp a .Mult b pos) (tI G W (bin2 repD fa fb)) :=
  ei_op c op_repT (fun F H x y a b d Q s rx ry e q => by
    unfold repD at e
    split at e
    · split at e
      · rename_i hn
        cases e
        cases ry
        cases rx with
        | tup g r =>
          have ln := r.length
          refine ⟨_, _, _, rfl, rfl, .of (s _ _ g), fun e0 => hn.1 ?_, hn.2.1, hn.2.2.1, by rw [ln]; exact hn.2.2.2, fun p hp => ?_⟩
          · rw [e0] at ln
            exact List.length_eq_zero_iff.mp ln.symm
          · have ex := fun o => Ext.new o s hp
            exact q _ _ _ (ex _) (.tup upd_same ((r.flat _).mono (ex _).f))
      · cases e
    · cases e) ha hb
end
end Dn

/-! tuple(range(..)), sorted(a dict), a dict's get -/
namespace Dn
open PySem PySem.Spec PyProof.Rows L2
section
variable {bb : Bool} {X : Cx} {G : Gx} {W : WX} {k : Nat} {pos p p2 p3 : Pos} {a b c e : Expr} {fa fb fc f : M D} {x : Str}
/-! ### tuple(range(n)) -/
def tupRg : D → Option D
  | .int n => if -100000 ≤ n ∧ n ≤ 100000 then some (.tup (rangeL 0 n.toNat)) else none
  | _ => none
theorem RpA.range {K : PySem.W.Frag} {F : Hp} (n : Int) : RpA K F (rgV 0 n) (rangeL 0 n.toNat) := by
  have h : ∀ (l : List Nat), RpA K F (l.map fun (i : Nat) => V.int (0 + (i : Nat))) (l.map fun (i : Nat) => D.int (0 + (i : Nat))) := fun l => by
    induction l with
    | nil => exact .nil
    | cons i l ih => exact .cons (.int _) ih
  unfold rgV rangeL
  rw [Int.sub_zero]
  exact h _
theorem ei_tupRg (c : Kx true X G W k) (hm : X.mg "tuple" = none) (hm2 : X.mg "range" = none) (ha : PE X e (tI G W f)) (hg : Gl X "tuple" := by rfl) (hg2 : Gl X "range" := by rfl) (he : starEach [e] X.env = (false, eval e X.env) :: starEach [] X.env := by rfl)
    (he2 : starEach [.Call (.Name "range" p2) [e] [] p3] X.env = (false, eval (.Call (.Name "range" p2) [e] [] p3) X.env) :: starEach [] X.env := by rfl) :
    PE X (.Call (.Name "tuple" p) [.Call (.Name "range" p2) [e] [] p3] [] pos) (tI G W (M.bind f fun d => M.lift (tupRg d))) :=
  PE.imp (pe_tupRg (c.calm rfl) hg hm (prg_1 hg2 hm2 ha he) he2) fun σ H Q ⟨F, ρ, τ, R, q⟩ => ⟨F, ρ, τ, R, (Fin.bind q).imp fun d ρ1 F1 H1 s1 R1 q1 v rv => by
    obtain ⟨d', e, z⟩ := Fin.lift q1
    unfold tupRg at e
    split at e
    · split at e
      · rename_i n hn
        cases e
        cases rv
        refine ⟨n, rfl, ⟨by omega, by omega, by omega, by omega, by omega⟩, fun p hp => ?_⟩
        have ex := fun o => Ext.new o R1.sub hp
        exact z _ _ (ex _).f (R1.ext (ex _)) _ (.tup upd_same ((RpA.range n).mono (ex _).f))
      · cases e
    · cases e⟩
/-! ### sorted(a dict with ints for keys) -/
def sortDK : List D → Option Co
  | [.dic false ks _] => match intsOf ks with
    | some ns => if ns.length < 64 then some (.lst ((isort leI ns).map D.int)) else none
    | none => none
  | _ => none
theorem keys_ints : ∀ {kvs : List (Key × V)} {ns : List Int}, intsOf (kvs.map fun q => kD q.1) = some ns → kvs.map (·.1) = ns.map Sum.inl
  | [], ns, h => by
    cases h
    rfl
  | (.inl i, v) :: kvs, ns, h => by
    have h : (intsOf (kvs.map fun q => kD q.1)).map (i :: ·) = some ns := h
    obtain ⟨m, hm, rfl⟩ := Option.map_eq_some_iff.mp h
    rw [List.map_cons, List.map_cons, keys_ints hm]
  | (.inr s, v) :: kvs, ns, h => by cases h
theorem sortDK_of {K : PySem.W.Frag} : CallN K (fun xs H Q => ∃ (a : Addr) (kvs : List (Key × V)) (ks : List Int), xs = [.ref a] ∧ Rd H a (.dK kvs) ∧ kvs.map (·.1) = ks.map Sum.inl ∧ ks.length < 64 ∧
    ∀ (ys : List Int) (p : Addr), ys.Perm ks → ys.Pairwise (· ≤ ·) → H p = none → Q (.ref p) (upd H p (.lst (ys.map V.int)))) sortDK := fun F H vs ds c Q s rvs e q => by
  unfold sortDK at e
  split at e
  · split at e
    · split at e
      · rename_i ks vs' ns hn hl
        cases e
        cases rvs with
        | cons r1 r2 =>
          cases r2
          cases r1 with
          | dcK h r =>
            refine ⟨_, _, ns, rfl, .of (s _ _ h), keys_ints hn, hl, fun ys p pm pw hp => ?_⟩
            have e : ys = isort leI ns := by
              refine sorted_uniq (le := fun a b => leI a b = true) leI_anti (pm.trans (isort_perm ns).symm) (pw.imp fun h => ?_) (isort_sorted leI_tot leI_tr ns)
              exact decide_eq_true h
            subst e
            exact q p _ hp ⟨_, rfl, RpA.ints _⟩
      · cases e
    · cases e
  · cases e
theorem en_sortedDK (c : Kx true X G W k) (hm : X.mg "sorted" = none) (ha : PE X e (tI G W f)) (hg : Gl X "sorted" := by rfl) (he : starEach [e] X.env = (false, eval e X.env) :: starEach [] X.env := by rfl) : PE X (.Call (.Name "sorted" p) [e] [] pos) (tN G W (M.bind (consM f (M.pure [])) fun ds => M.lift (sortDK ds))) :=
  en_callN c (call_sortedDI (c.calm rfl)) sortDK_of hm PyProof.Rows.boot_sorted (ea_cons ha ea_nil he) hg (by decide) (by decide) he rfl
/-! ### d.get(k, z), d a name -/
def getD (a b z : D) : Option D := (dget a b).map fun o => o.getD z
def getHere (i : Nat) (b z : D) : M D := fun ρ => match ρ[i]? with
  | some s => match s.d? with
    | some a => (getD a b z).map fun d => .ok d ρ
    | none => none
  | none => none
def getM (i : Nat) (fb fc : M D) : M D := M.bind (pk i) fun _ => M.bind fb fun b => M.bind fc fun z => getHere i b z
theorem slot_get {F H : Hp} {ρ : Sto} {σ : L2.St} {τ : Tmp} {i : Nat} {s : Slot} {v : V} {y : V} {a b : D} {o : Option D} (R : Rep G F H ρ σ τ) (hs : ρ[i]? = some s) (hd : s.d? = some a) (hv : σ[i]? = some (some v)) (ry : Rp G.K F y b) (e : dget a b = some o) :
    ∃ p ov, v = .ref p ∧ DGet H p y ov ∧ (o = none → ov = none) ∧ ∀ d, o = some d → ∃ w, ov = some w ∧ Rp G.K F w d := by
  cases s with
  | emp => cases hd
  | pin _ _ _ => cases hd
  | ins _ _ _ _ => cases hd
  | val d =>
    cases hd
    obtain ⟨v2, h2, r2⟩ := R.val hs
    rw [hv] at h2
    have e2 : v = v2 := Option.some.inj (Option.some.inj h2)
    subst e2
    obtain ⟨p, ov, e1, g, z1, z2⟩ := dget_of r2 ry e
    refine ⟨p, ov, e1, ?_, z1, z2⟩
    rcases g with ⟨kvs, k, r, z⟩ | ⟨kvs, k, b, r, q1, q2, q3⟩
    · refine .inl ⟨kvs, k, ?_, z⟩
      rcases r with r | ⟨o, r⟩
      · exact .inl (R.sub _ _ r)
      · exact .inr ⟨o, R.sub _ _ r⟩
    · refine .inr ⟨kvs, k, b, ?_, q1, R.sub _ _ q2, q3⟩
      rcases r with r | ⟨o, r⟩
      · exact .inl (R.sub _ _ r)
      · exact .inr ⟨o, R.sub _ _ r⟩
  | own bb cc =>
    cases hd
    obtain ⟨p, ob, h2, h3, h4, _⟩ := R.own hs
    rw [hv] at h2
    have e2 : v = .ref p := Option.some.inj (Option.some.inj h2)
    subst e2
    cases cc with
    | lst ds => simp [Co.d, dget] at e
    | dT es =>
      obtain ⟨kvs, rfl, hk, r⟩ := h4
      simp only [Co.d, dget, Option.map_eq_some_iff] at e
      obtain ⟨k, h1, h5⟩ := e
      have e1 : (es.map fun e => kTD e.1) = kvs.map fun q => kTD q.1 := by
        have := congrArg (List.map kTD) hk
        rw [List.map_map, List.map_map] at this
        exact this.symm
      rw [e1] at h5
      obtain ⟨z1, z2⟩ := look_T k r _ h5
      obtain ⟨b', rfl, hb⟩ := ry.keyT h1
      exact ⟨p, _, rfl, .inr ⟨kvs, k, b', .of h3, rfl, R.sub _ _ hb, rfl⟩, z1, z2⟩
    | dK es =>
      obtain ⟨kvs, rfl, hk, r⟩ := h4
      simp only [Co.d, dget, Option.map_eq_some_iff] at e
      obtain ⟨k, h1, h5⟩ := e
      have e1 : (es.map fun e => kD e.1) = kvs.map fun q => kD q.1 := by
        have := congrArg (List.map kD) hk
        rw [List.map_map, List.map_map] at this
        exact this.symm
      rw [e1] at h5
      obtain ⟨z1, z2⟩ := look_K k r _ h5
      have ey := ry.keyK h1
      subst ey
      exact ⟨p, _, rfl, .inl ⟨kvs, k, .of h3, rfl, rfl⟩, z1, z2⟩
theorem Rep.slot_dict {F H : Hp} {ρ : Sto} {σ : L2.St} {τ : Tmp} {i : Nat} {s : Slot} {t : Bool} {ks vs : List D} (R : Rep G F H ρ σ τ) (hs : ρ[i]? = some s) (hd : s.d? = some (.dic t ks vs)) : ∃ p, σ[i]? = some (some (.ref p)) ∧ IsD H p := by
  obtain ⟨v, h1, r⟩ := R.pk hs hd
  cases r with
  | dcT h _ => exact ⟨_, h1, .inr ⟨_, .of h⟩⟩
  | dcK h _ => exact ⟨_, h1, .inl ⟨_, .of h⟩⟩
/-- .. where a dict stands -/
def isDic (i : Nat) : M Unit := fun ρ => match ρ[i]? with
  | some s => match s.d? with
    | some (.dic _ _ _) => some (.ok () ρ)
    | _ => none
  | none => none
def getN (i : Nat) (fb fc : M D) : M D := M.bind (isDic i) fun _ => M.bind fb fun b => M.bind fc fun z => getHere i b z
theorem ei_get {i : Nat} {apos : Pos} (cx : Kx bb X G W k) (hb : PE X b (tI G W fb)) (hc : PE X c (tI G W fc)) (m : M2 X (.Name x p) "get" apos b c pos := by exact ⟨rfl, rfl, rfl, rfl⟩) (hN : X.N[i]? = some x := by rfl) (hv : Vis X.env.scope x := by first | exact Or.inl rfl | exact Or.inr (Or.inl rfl) | exact Or.inr (Or.inr rfl)) (hd : (x == ("__debug__" : Str)) = false := by decide)
    (hcd : (x == ("__classdict__" : Str)) = false := by decide) : PE X (.Call (.Attribute (.Name x p) "get" apos) [b, c] [] pos) (tI G W (getN i fb fc)) :=
  PE.imp (pe_dget2 (by have := cx.u64; omega) (pe_var hN hv hd hcd) hb hc m) fun σ H Q ⟨F, ρ, τ, R, q⟩ => by
    have q1 := Fin.bind q
    unfold isDic at q1
    split at q1
    · rename_i s hs
      split at q1
      · rename_i t ks vs hd
        obtain ⟨p, h1, hdict⟩ := R.slot_dict hs hd
        have q2 := q1 F H (Same.refl F) R
        refine ⟨.ref p, h1, p, rfl, hdict, F, ρ, τ, R, (Fin.bind q2).imp fun y ρ2 F2 H2 s2 R2 q3 w rw => ⟨F2, ρ2, τ, R2, (Fin.bind q3).imp fun z ρ3 F3 H3 s3 R3 q4 u ru => ?_⟩⟩
        unfold getHere at q4
        split at q4
        · rename_i s' hs'
          split at q4
          · rename_i a ha
            cases z1 : dget a y with
            | none => simp only [getD, z1, Option.map_none] at q4; exact q4.elim
            | some o =>
              simp only [getD, z1, Option.map_some] at q4
              have ry := rw.mono s3
              obtain ⟨p', ov, e1, g, g1, g2⟩ := slot_get R3 hs' ha h1 ry z1
              cases e1
              refine ⟨ov, g, ?_⟩
              have q5 := q4 F3 H3 (Same.refl _) R3
              cases o with
              | none =>
                rw [g1 rfl]
                exact q5 _ ru
              | some d =>
                obtain ⟨w', e2, rw'⟩ := g2 d rfl
                subst e2
                exact q5 _ rw'
          · exact q4.elim
        · exact q4.elim
      · exact q1.elim
    · exact q1.elim
end
end Dn

/-! len(set(x)), x a tuple of pairs -/
namespace Dn
open PySem PySem.Spec PyProof.Rows L2
abbrev noSet (w : World) : Obj := { cls := .type "set", dict := none, data := .set #[] 0 (.fresh 0 0 (!w.params.followText "set-order")) }
set_option maxHeartbeats 3200000 in
theorem call_setT {P : Program} {w : World} {A : Around} {E : Value → Shared → Prop} {s : Shared} {l : Addr} {its : Array Value} (ks : List (Addr × List Int)) {Q : Value → Shared → Prop} (hh : A.handled = none) (hl : s.heap.IsTuple l its) (ei : its.toList = ks.map fun p => Value.ref p.1)
    (hk : ∀ p ∈ ks, IsT P w s.heap p.2 p.1) (few : ks.length < 64) (hu : A.units + 3 < cLine)
    (q : ∀ (h' : Heap) (tk : Nat) L es ep t, SetTR P w h' s.heap.objs.size L es ep t → Got ks ks.length L → (∀ b o, s.heap.get? b = some o → h'.get? b = some o) → Q (.ref s.heap.objs.size) { s with heap := h', toks := tk }) :
    wpAny (model P w) A (call (.type "set") [.ref l]) Q E s := by
  have n1 : its.size = ks.length := by
    have := congrArg List.length ei
    rwa [Array.length_toList, List.length_map] at this
  obtain ⟨cc, tl, hmro⟩ := F.called_set.mro
  have hmade := F.called_set.made
  have hsub := F.called_set.sub
  refine wpAny_call (codeAny_of_tree ?_)
  show wpAny _ _ (callAny (.type "set") _) _ _ _
  refine wpAny_pure ⟨Code.quiet_builtin _ (by decide +kernel), codeAny_builtin F.entry_type_call ?_⟩
  rw [Around.under_plain (weight_type_call_type "set" [.ref l] []) rfl]
  have g1 := F.called_set.notType
  have g2 := F.called_set.canCreate
  have g3 := F.typeCall_set_1 (.ref l)
  repeat (any_goals (first | assumption | wp_step))
  refine codeAny_mono (code_set_led1 (.ref l) (E := E) (Q₁ := fun ob s1 => ob = .ref s.heap.objs.size ∧ s1 = { s with heap := s.heap.push (noSet w) }) ⟨rfl, rfl⟩) fun r s1 hr => ?_
  match r, hr with
  | .error e, hr => exact hr
  | .ok (.ret ob), hr =>
    obtain ⟨rfl, rfl⟩ := hr
    have here : (s.heap.push (noSet w)).get? s.heap.objs.size = some (noSet w) := Heap.get?_push_size _ rfl
    have ty : Shared.TypeIs { s with heap := s.heap.push (noSet w) } (.ref s.heap.objs.size) "set" := ⟨_, here, rfl⟩
    have i1 := F.called_set.init.lookup
    have i2 := F.called_set.init.bind (.ref s.heap.objs.size)
    repeat (any_goals (first | assumption | wp_step))
    refine codeAny_mono (codeAny_call_builtin (R := wants (fun r s2 => r = .none ∧ ∃ h' tk L es ep t, s2 = { s with heap := h', toks := tk } ∧ SetTR P w h' s.heap.objs.size L es ep t ∧ Got ks ks.length L ∧ ∀ b o, s.heap.get? b = some o → h'.get? b = some o) E) F.called_set.init.plain F.entry_set_init (check_set_init_1 ty ?_)) fun r2 s2 hr2 => ?_
    · obtain ⟨ol, hol, hcl, nl, hdl⟩ := hl
      obtain ⟨ocls, odict, odata, oslots⟩ := ol
      simp only at hcl hdl
      subst hcl; subst hdl
      have hol2 : (s.heap.push (noSet w)).get? l = some { cls := .type "tuple", dict := odict, data := .seq its nl, slots := oslots } := Heap.get?_push_of_some _ hol
      have b1 := F.sub_tuple_set
      have b2 := F.sub_tuple_frozenset
      have b3 : (Value.type "tuple" == Value.type "dict") = false := by decide
      have tup : (s.heap.push (noSet w)).IsTuple l its := ⟨_, hol2, rfl, nl, rfl⟩
      unfold Builtin.«set.__init__» noKeywords Builtin.Frozenset.updateFrom
      generalize hPI : pyIter = PI
      wp_walk
      subst hPI
      refine wpAny_pyIter_tuple tup ?_
      refine wpAny_bind (wpAny_runValue ?_)
      have lt : l < s.heap.objs.size := Heap.lt_size hol
      have h3 : A.in1.in1.in1.handled = none := by simp [hh]
      have sz : (s.heap.push (noSet w)).objs.size = s.heap.objs.size + 1 := Heap.size_push ..
      have ne : l ≠ (s.heap.push (noSet w)).objs.size := by rw [sz]; exact Nat.ne_of_lt (Nat.lt_succ_of_lt lt)
      have nf : s.heap.objs.size ∉ [(s.heap.push (noSet w)).objs.size, l] := by
        rw [sz]
        simp only [List.mem_cons, List.not_mem_nil, or_false, not_or]
        exact ⟨Nat.ne_of_lt (Nat.lt_succ_self _), Nat.ne_of_gt lt⟩
      have val : ∀ (i : Nat) (v : Value), its[i]? = some v → ∃ p, ks[i]? = some p ∧ v = .ref p.1 := fun i v hv => by
        have z : its.toList[i]? = some v := by rw [Array.getElem?_toList]; exact hv
        rw [ei, List.getElem?_map, Option.map_eq_some_iff] at z
        obtain ⟨p, z1, z2⟩ := z
        exact ⟨p, z1, z2.symm⟩
      have nn : ∀ b, s.heap.objs.size ≤ b → s.heap.get? b = none := fun b hb => by
        cases z : s.heap.get? b with
        | none => rfl
        | some o => exact absurd (Heap.lt_size z) (Nat.not_lt.mpr hb)
      refine set_update_tups ((Walks.tuple h3 _ l ne its).toS) s.heap.objs.size nf ks n1 few val s.heap hk (nn _ (Nat.le_refl _)) (fun b hb => nn b (by
          rw [List.mem_singleton.mp hb, sz]
          exact Nat.le_succ _)) hu (its.size - 0) 0 _ (by omega) (Nat.zero_le _) ⟨⟨_, Heap.get?_push_size _ rfl, rfl, rfl⟩, ?first⟩ (fun b o z => Heap.get?_push_of_some _ (Heap.get?_push_of_some _ z)) ?begin ?fin
      case first => exact Heap.IsTuple.at tup fun o z => Heap.get?_push_of_some _ z
      case begin => exact ⟨[], #[], 0, _, setTR_fresh (Heap.get?_push_of_some _ here), Got.zero ks⟩
      case fin =>
        rintro ⟨h', g', d', tk', os'⟩ L es ep t hm R got kept
        have e1 : g' = s.gens := hm.gens
        have e2 : d' = s.drawn := hm.drawn
        have e3 : os' = s.os := hm.os
        subst e1; subst e2; subst e3
        show wpAny _ _ _ _ _ _
        refine wpAny_pure ?_
        show wpAny _ _ (ret Value.none) _ _ _
        rw [n1] at got
        exact wpAny_pure ⟨rfl, h', tk', L, es, ep, t, rfl, R, got, kept⟩
    · match r2, hr2 with
      | .error e, hr2 => exact hr2
      | .ok (.ret r), hr2 =>
        obtain ⟨rfl, h', tk, L, es, ep, t, rfl, R, got, kept⟩ := hr2
        repeat (any_goals (first | assumption | wp_step))
        exact q _ _ _ _ _ _ R got kept
end Dn

namespace Dn
open PySem PySem.Spec PyProof.Rows L2
/-- each once -/
def once {α : Type} [DecidableEq α] : List α → List α
  | [] => []
  | a :: l => if a ∈ l then once l else a :: once l
theorem mem_once {α : Type} [DecidableEq α] {x : α} : ∀ {l : List α}, x ∈ once l ↔ x ∈ l
  | [] => Iff.rfl
  | a :: l => by
    unfold once
    split
    · rename_i h
      rw [mem_once, List.mem_cons]
      exact ⟨.inr, fun z => z.elim (fun e => e ▸ h) id⟩
    · rw [List.mem_cons, List.mem_cons, mem_once]
theorem nodup_once {α : Type} [DecidableEq α] : ∀ l : List α, (once l).Nodup
  | [] => List.nodup_nil
  | a :: l => by
    unfold once
    split
    · exact nodup_once l
    · rename_i h
      exact List.nodup_cons.mpr ⟨fun z => h (mem_once.mp z), nodup_once l⟩
theorem len_le {α : Type} [DecidableEq α] : ∀ {l m : List α}, l.Nodup → (∀ x ∈ l, x ∈ m) → l.length ≤ m.length
  | [], _, _, _ => Nat.zero_le _
  | a :: l, m, h, hs => by
    rw [List.nodup_cons] at h
    have ha : a ∈ m := hs a (List.mem_cons_self ..)
    have z := len_le (l := l) (m := m.erase a) h.2 fun x hx => (List.mem_erase_of_ne (fun e => h.1 (by rw [← e]; exact hx))).mpr (hs x (List.mem_cons_of_mem _ hx))
    rw [List.length_erase_of_mem ha] at z
    have := List.length_pos_of_mem ha
    rw [List.length_cons]
    omega
section
variable {bb : Bool} {X : Cx} {G : Gx} {W : WX} {k : Nat} {pos p p2 q2 : Pos} {a b c e : Expr} {fa fb fc f : M D} {ta : TE}
def tLenSetT (K : PySem.W.Frag) (ta : TE) : TE := fun σ H Q => ta σ H fun x H1 => ∃ (l : Addr) (ks : List (Addr × List Int)), x = V.ref l ∧ SqT K H1 l (ks.map fun p => V.ref p.1) ∧ (∀ p ∈ ks, SqT K H1 p.1 (p.2.map V.int)) ∧ ks.length < 64 ∧ Q (.int (once (ks.map (·.2))).length) H1
theorem pe_lenSetT (c : Kx true X G W k) (hm : X.mg "len" = none) (hm2 : X.mg "set" = none) (ha : PE X a ta) (hg : Gl X "len" := by rfl) (hg2 : Gl X "set" := by rfl) (he : starEach [a] X.env = (false, eval a X.env) :: starEach [] X.env := by rfl) :
    PE X (.Call (.Name "len" p) [.Call (.Name "set" p2) [a] [] q2] [] pos) (tLenSetT X.K ta) := by
  refine ⟨fun pins s σ H Q I h => Call_ (ld_blt I hg hm PySem.boot_len (PyProof.Rows.callWith_builtin1 (PyProof.Rows.args_cons (Call_ (ld_blt I hg2 hm2 PyProof.Rows.boot_set (PyProof.Rows.callWith_type1 (PyProof.Rows.args_cons (thn (ha.run pins s σ H _ I h) fun v s1 ⟨x, H1, I1, r1, l, ks, ex, sq, each, few, q⟩ => PyProof.Rows.args_nil ?_) he) he rfl))) rfl) rfl rfl))⟩
  subst ex
  cases r1
  obtain ⟨us, r, pl, hz⟩ := I1.tuple sq
  refine call_setT ks (I1.ok.hd (c.calm rfl)) (its := us.toArray) pl (by simpa using refs_of_vals r) (fun p hp => I1.isT (each p hp)) few (by have := c.u64; omega) fun h' tk L es ep t R got kept => PyProof.Rows.args_nil ?_
  have I2 : Inv X pins σ H1 { s1 with heap := h', toks := tk } := I1.kept kept
  obtain ⟨o, ho, hex, hd⟩ := R.ob
  have sz := SetTR.size (s := { s1 with heap := h', toks := tk }) R
  have fit := SetTR.fits (s := { s1 with heap := h', toks := tk }) R
  have few2 := R.few
  have n : L.length = (once (ks.map (·.2))).length := by
    rw [← List.length_map (f := (·.2))]
    refine Nat.le_antisymm (len_le R.nd fun x hx => ?_) (len_le (nodup_once _) fun x hx => ?_)
    · obtain ⟨p, hp, rfl⟩ := List.mem_map.mp hx
      exact mem_once.mpr (List.mem_map_of_mem (List.mem_of_mem_take (got.sub p hp)))
    · obtain ⟨p, hp, rfl⟩ := List.mem_map.mp (mem_once.mp hx)
      exact got.all p (by rw [List.take_length]; exact hp)
  refine call_len_set ho hex hd fit (by omega) ⟨.int (once (ks.map (·.2))).length, H1, I2.tok _, ⟨_, by rw [sz, n]⟩, q⟩
/-- pairs -/
def lenSetD : D → Option D
  | .tup l => match pairsOf l with
    | some zs => if zs.length < 64 then some (.int (once zs).length) else none
    | none => none
  | _ => none
theorem once_map {α β : Type} [DecidableEq α] [DecidableEq β] (g : α → β) (inj : ∀ x y, g x = g y → x = y) : ∀ l : List α, (once (l.map g)).length = (once l).length
  | [] => rfl
  | a :: l => by
    rw [List.map_cons]
    unfold once
    have e : g a ∈ l.map g ↔ a ∈ l := by
      rw [List.mem_map]
      exact ⟨fun ⟨y, hy, z⟩ => inj _ _ z ▸ hy, fun h => ⟨a, h, rfl⟩⟩
    by_cases h : a ∈ l
    · rw [if_pos h, if_pos (e.mpr h), once_map g inj l]
    · rw [if_neg h, if_neg (fun z => h (e.mp z)), List.length_cons, List.length_cons, once_map g inj l]
theorem refs_pairs {K : PySem.W.Frag} {F : Hp} : ∀ {zs : List (Int × Int)} {vs : List V}, RpA K F vs (zs.map pD) → ∃ ks : List (Addr × List Int), vs = ks.map (fun p => V.ref p.1) ∧ ks.map (·.2) = zs.map (fun z => [z.1, z.2]) ∧ ∀ p ∈ ks, F p.1 = some (.tup (p.2.map V.int))
  | [], _, h => by
    cases h
    exact ⟨[], rfl, rfl, fun p hp => (by cases hp)⟩
  | z :: zs, _, h => by
    cases h with
    | cons r t =>
      obtain ⟨ks, e1, e2, e3⟩ := refs_pairs t
      cases r with
      | tup hF rr =>
        rename_i a xs
        cases rr with
        | cons r1 rr =>
          cases rr with
          | cons r2 rr =>
            cases rr
            cases r1
            cases r2
            refine ⟨(a, [z.1, z.2]) :: ks, by rw [e1]; rfl, by rw [List.map_cons, e2]; rfl, fun p hp => ?_⟩
            rcases List.mem_cons.mp hp with rfl | hp
            · exact hF
            · exact e3 p hp
theorem ei_lenSet (c : Kx true X G W k) (hm : X.mg "len" = none) (hm2 : X.mg "set" = none) (ha : PE X e (tI G W f)) (hg : Gl X "len" := by rfl) (hg2 : Gl X "set" := by rfl) (he : starEach [e] X.env = (false, eval e X.env) :: starEach [] X.env := by rfl) :
    PE X (.Call (.Name "len" p) [.Call (.Name "set" p2) [e] [] q2] [] pos) (tI G W (M.bind f fun d => M.lift (lenSetD d))) :=
  PE.imp (pe_lenSetT c hm hm2 ha hg hg2 he) fun σ H Q ⟨F, ρ, τ, R, q⟩ => ⟨F, ρ, τ, R, (Fin.bind q).imp fun d ρ1 F1 H1 s1 R1 q1 v rv => by
    obtain ⟨d', e, z⟩ := Fin.lift q1
    unfold lenSetD at e
    split at e
    · split at e
      · rename_i l zs hp
        split at e
        · rename_i hn
          cases e
          have el := pairsOf_eq hp
          subst el
          cases rv with
          | tup g r =>
            obtain ⟨ks, e1, e2, e3⟩ := refs_pairs r
            subst e1
            have ln : ks.length = zs.length := by
              have := congrArg List.length e2
              rwa [List.length_map, List.length_map] at this
            refine ⟨_, ks, rfl, .of (R1.sub _ _ g), fun p hp => .of (R1.sub _ _ (e3 p hp)), by rw [ln]; exact hn, ?_⟩
            rw [e2, once_map (fun z : Int × Int => [z.1, z.2]) (fun x y h => by
              simp only [List.cons.injEq, and_true] at h
              exact Prod.ext h.1 h.2) zs]
            exact z F1 H1 (Same.refl _) R1 _ (.int _)
        · cases e
      · cases e
    · cases e⟩
end
end Dn

/-! Blocks that make a dict or a set: one core for all -/
namespace Dn
open PySem PySem.Spec PyProof.Rows L2
/-- what comes of a block: a new object o0, which each turn's body writes -/
def tBlk (o0 : Addr → HO) (wi : TI) (g : TG) (tb : Addr → L2.St → Hp → (Hp → Prop) → Prop) (vs : List Nat) : TE := fun σ H Q => wi σ H fun J Ha => ∀ D, Ha D = none → ∃ W : Nat → Nat → Hp → Prop,
  (∃ m, W 0 m (upd Ha D (o0 D))) ∧ ∀ i m Hb, W i m Hb → (J.stop i Hb ∧ Q (.ref D) Hb) ∨ (J.go i Hb ∧ ∃ Nx : Hp → Prop, (∀ Hn, Nx Hn → ∃ m', m' < m ∧ W (i + 1) m' Hn) ∧
    ∀ x Hc, J.yld i Hb x Hc → g x (wipe σ vs) Hc fun σ2 Hd => wipe σ2 vs = wipe σ vs ∧ tb D σ2 Hd Nx)
abbrev Bdy := Addr → Env → (Shared → Prop) → (Value → Shared → Prop) → Shared → Prop
section
variable {X : Cx}
abbrev cellsAt (s : Shared) (scope : Scope) (env : Env) : List (Str × Addr) := cellsFrom (s.heap.objs.size + 1) scope.names (cloFrom env.cells scope.names [])
abbrev envAt (s : Shared) (scope : Scope) (env : Env) : Env := compEnvC scope (cellsAt s scope env) s.heap.objs.size env
theorem blk_core {pins : List (Addr × Obj)} {s : Shared} {σ : L2.St} {H : Hp} {Q : VK} {cx tg iter : Expr} {scope : Scope} {own : List (Str × Nat)} {pos' : Pos} {wi : TI} {g : TG} {tb : Addr → L2.St → Hp → (Hp → Prop) → Prop}
    {use : Option (Value → Sem Unit)} {Qf : Value → Shared → Prop} {mk : Sem Value} {ob : Obj} {o0 : Addr → HO} {body : Bdy} (calm : X.calm = true) (nd : X.N.Nodup) (I : Inv X pins σ H s) (hi : PI X tg iter wi) (ok : BlkOk X.N X.env.scope scope own)
    (hg : ∀ (t : Shared) (Ht : Hp) (fp : List Addr), PG (X.blk t Ht scope (envAt t scope X.env) fp) tg g)
    (hb : ∀ (t : Shared) (Ht : Hp) (fp : List Addr) (D : Addr) (ps : List (Addr × Obj)) (s1 : Shared) (σ1 : L2.St) (H1 : Hp) (Nx : Hp → Prop) (K : Shared → Prop) (E : Value → Shared → Prop),
      Inv (X.blk t Ht scope (envAt t scope X.env) fp) ps σ1 H1 s1 → tb D σ1 H1 Nx → (∀ H2 s2, Inv (X.blk t Ht scope (envAt t scope X.env) fp) ps σ1 H2 s2 → Nx H2 → K s2) → body D (envAt t scope X.env) K E s1)
    (hs : ∀ x, foldedSetIterable iter X.env x = pure x) (cl : clausesOf cx = [⟨tg, iter, [], 0⟩])
    (hmk : ∀ (t : Shared) (K E : Value → Shared → Prop), K (.ref t.heap.objs.size) { t with heap := t.heap.push ob } → wpAny (model X.prog X.w) X.A mk K E t)
    (hob : ∀ (h : Heap) (Ht : Hp), sysModules < h.objs.size → ObjOk X.prog X.w Ht (h.push ob) h.objs.size (o0 h.objs.size))
    (hgo : ∀ (D it : Addr) (env : Env) (R : Result → Shared → Prop) (t : Shared) (J : Nat → Shared → Prop),
      (∀ n s1, J n s1 → wpAny (model X.prog X.w) X.A (pyNext (.ref it)) (fun r s2 => match r with
        | none => R (.ok .next) s2
        | some v => wpAny (model X.prog X.w) X.A (letOwnedTupleGo tg (.ref it) v) (fun _ s3 => wpAny (model X.prog X.w) X.A (assign tg env v) (fun _ s4 => body D env (fun s5 => ∃ m, m < n ∧ J m s5) (notedBy (model X.prog X.w) X.A env fun e s' => R (.error e) s') s4)
          (notedBy (model X.prog X.w) X.A env fun e s' => R (.error e) s') s3) (notedBy (model X.prog X.w) X.A env fun e s' => R (.error e) s') s2) (notedBy (model X.prog X.w) X.A env fun e s' => R (.error e) s') s1) →
      ∀ n, J n t → (codeAny (model X.prog X.w) X.A (.compLoop cx 0 (.ref it) (.ref D) env) R t → wpAny (model X.prog X.w) X.A (pyIter (.ref it)) (fun it' s' => codeAny (model X.prog X.w) X.A (.compLoop cx 0 it' (.ref D) env) R s') (notedBy (model X.prog X.w) X.A env fun x s' => R (.error x) s') t) →
      codeAny (model X.prog X.w) X.A (.compStart cx 0 (.ref it) (.ref D) env) R t)
    (h : tBlk o0 wi g tb (own.map (·.2)) σ H Q)
    (fin : ∀ D C s1 m H1, Inv X pins σ H1 s1 → Q (.ref D) H1 → s1.heap.Ns C m → FpOk X pins H1 C → compPost (model X.prog X.w) X.A X.xe use Qf (.ref D) C (.ok .next) s1) :
    wpAny (model X.prog X.w) X.A (comprehension cx scope X.env pos' mk false (eval iter X.env) use) Qf X.xe s := by
  have clo : closureFor scope X.env = pure (cloFrom X.env.cells scope.names []) := closure_ok fun y hy e => (ok.free y hy e).elim (fun k => I.ok.has _ (.inl k)) fun k => I.ok.has _ (.inr k)
  refine wpAny_comprehension_free (use := use) cl hs clo ok.kind (fun y hy e => e ▸ ok.uniq y hy) (thn (hi.run pins s σ H _ I h) fun _ sa ha => thn ha fun _ sb ⟨it, fp, tn, J, Hb, ei, Ib, T, tn0, fpb, q⟩ => ?_)
  subst ei
  refine hmk _ _ _ (newEnv_comp ?_)
  have free : Hb sb.heap.objs.size = none := Ib.hok.fresh (Nat.le_refl _)
  obtain ⟨W, ⟨mz, wz⟩, turn⟩ := q _ free
  generalize eH : upd Hb sb.heap.objs.size (o0 sb.heap.objs.size) = Hc at wz
  generalize eD : sb.heap.objs.size = D at turn eH free
  -- the new object stands
  obtain ⟨sc, esc⟩ : ∃ sc : Shared, ({ sb with heap := sb.heap.push ob } : Shared) = sc := ⟨_, rfl⟩
  have hsc : sc.heap = sb.heap.push ob := by rw [← esc]
  have Ic : Inv X pins σ Hc sc := by
    have z := Ib.laid (a := sb.heap.objs.size) (o := o0 sb.heap.objs.size) (h' := sb.heap.push ob) (t' := sb.toks) (fun c o e => Heap.get?_push_of_some _ e) (Nat.le_refl _) (hob sb.heap _ Ib.big)
    rw [← esc, ← eH, ← eD]
    exact z
  have low : ∀ c ∈ fp, c < D := fun c hc => by
    obtain ⟨o, e, _⟩ := T.obj _ _ tn0 c hc
    rw [← eD]
    exact Heap.lt_size e
  have size : sc.heap.objs.size = D + 1 := by rw [hsc, Heap.size_push, eD]
  have fpc : ∀ c ∈ fp, FpOk X pins Hc c ∧ c < sc.heap.objs.size := fun c hc => by
    have lt := low c hc
    have z := fpb c hc
    exact ⟨⟨by rw [← eH, upd_ne (Nat.ne_of_lt lt)]; exact z.1, z.2⟩, by rw [size]; exact Nat.lt_succ_of_lt lt⟩
  have tnc : tn 0 sc.heap := T.keep _ _ _ tn0 fun c _ o e => by
    rw [hsc]
    exact Heap.get?_push_of_some _ e
  have Id := block_start Ic ok nd fpc
  have bg := hg sc Hc fp
  have bb := hb sc Hc fp
  obtain ⟨ce, ece⟩ : ∃ ce, envAt sc scope X.env = ce := ⟨_, rfl⟩
  have loc : ce.locals = sc.heap.objs.size := by rw [← ece]; rfl
  obtain ⟨sd, esd⟩ : ∃ sd : Shared, ({ sc with heap := pushCells (sc.heap.push { cls := .type "dict", data := .dict #[] }) scope.names } : Shared) = sd := ⟨_, rfl⟩
  have goal : codeAny (model X.prog X.w) X.A (.compStart cx 0 (.ref it) (.ref D) ce) (compPost (model X.prog X.w) X.A X.xe use Qf (.ref D) sc.heap.objs.size) sd := by
    rw [show envAt sc scope X.env = ce from ece] at bg bb
    have Ie : Inv (X.blk sc Hc scope ce fp) [] (wipe σ (own.map (·.2))) Hc sd := by
      rw [← ece, ← esd]
      exact Id
    have tnd : tn 0 sd.heap := T.keep _ _ _ tnc fun c _ o e => by
      rw [← esd]
      exact pushCells_keeps _ _ _ _ (Heap.get?_push_of_some _ e)
    have still : ∀ {σ1 : L2.St} {H1 : Hp} {s1 : Shared}, Inv (X.blk sc Hc scope ce fp) [] σ1 H1 s1 → (∀ c ∈ fp, H1 c = none) → ∀ c ∈ fp, FpOk (X.blk sc Hc scope ce fp) [] H1 c := fun {σ1 H1 s1} I1 z c hc => by
      have u := I1.ok.exf c hc
      exact ⟨z c hc, u.1, I1.ok.exfs c hc, .inl hc, fun x y e => u.2 x y e, fun p hp => (by simp at hp)⟩
    refine hgo D it ce _ sd (fun n s1 => ∃ i H1, Inv (X.blk sc Hc scope ce fp) [] (wipe σ (own.map (·.2))) H1 s1 ∧ tn i s1.heap ∧ (∀ c ∈ fp, H1 c = none) ∧ W i n H1) ?_ mz ⟨0, Hc, Ie, tnd, fun c hc => (fpc c hc).1.1, wz⟩ fun again => T.self X.A 0 _ _ _ tnd again
    rintro n s1 ⟨i, H1, I1, tn1, no1, w1⟩
    rcases turn i n H1 w1 with ⟨stop, qq⟩ | ⟨go, Nx, less, step⟩
    · -- no item is left
      refine thnF (T.done (X.blk sc Hc scope ce fp) rfl rfl rfl calm i [] s1 _ H1 (fun _ _ => False) I1 (still I1 no1) tn1 stop) fun r s2 ⟨hr, I2⟩ => ?_
      subst hr
      have back : Inv X pins σ H1 s2 := Ic.call' (ch := fp) I2.os I2.base I2.hok I2.bare fun c hc => by
        have z := (fpc c hc).1.2
        exact ⟨z.2.2.1, z.1, z.2.2.2.1, z.2.2.2.2⟩
      have own0 : H1 sc.heap.objs.size = none := by
        have z := I2.free
        rw [← loc]
        exact z
      obtain ⟨m, hm, _⟩ := I2.loc
      have hm : s2.heap.Ns ce.locals m := hm
      exact fin D sc.heap.objs.size s2 m H1 back qq (loc ▸ hm) (Ic.fpOk (Nat.le_refl _) own0)
    · refine thnF (T.item (X.blk sc Hc scope ce fp) rfl rfl rfl calm i [] s1 _ H1 (fun _ _ => False) I1 (still I1 no1) tn1 go) fun r s2 ⟨u, hr, h2⟩ => ?_
      subst hr
      refine thnF h2 fun _ s3 ⟨x, H3, I3, rx, yx, tn3, no3⟩ => ?_
      have P3 := I3.pinned (still I3 no3) (T.obj _ _ tn3)
      refine thnF (bg.run _ s3 _ H3 x u _ P3 rx (step x H3 yx)) fun _ s4 ⟨σ4, H4, I4, ew, q4⟩ => ?_
      refine bb D _ s4 σ4 H4 Nx _ _ I4 q4 fun H5 s5 I5 nx => ?_
      obtain ⟨m, lt, w5⟩ := less H5 nx
      have pin : ∀ c ∈ fp, ∀ o, s3.heap.get? c = some o → s5.heap.get? c = some o ∧ H5 c = none := fun c hc o e => by
        have z := I5.pin (c, o) (List.mem_append_right _ (List.mem_append_right _ (mem_pinsAt hc e)))
        exact ⟨z.1, z.2.1⟩
      have ln : (wipe σ (own.map (·.2))).length = σ4.length := by
        rw [← wipe_length σ4 (own.map (·.2)), ew]
      refine ⟨m, lt, i + 1, H5, (I5.unpinned (pins := [])).weak ln (fun j v e => (wipe_some (vs := own.map (·.2)) (by rw [ew]; exact e)).1), T.keep _ _ _ tn3 fun c hc o e => (pin c hc o e).1, fun c hc => ?_, w5⟩
      obtain ⟨o, e, _⟩ := T.obj _ _ tn3 c hc
      exact (pin c hc o e).2
  subst ece esd esc
  subst eD
  exact goal
end
end Dn

/-! {k: v for ..} with tuples for keys; len({e for ..}) of ints -/
namespace Dn
open PySem PySem.Spec PyProof.Rows L2
section
variable {X : Cx}
theorem tk_room {A : Around} {P : Program} {w : World} (h : A.units < cLine) : (tupleKind (mixKind P w)).room A := h
theorem putT_ok {ps : List (Addr × Obj)} {σ : L2.St} {H : Hp} {s : Shared} {E : Value → Shared → Prop} {D b : Addr} {kvs : List (List Key × V)} {ks : List Key} {v : V} {r : Value} {Q : Unit → Shared → Prop} (room : X.A.units < cLine) (I : Inv X ps σ H s)
    (hD : H D = some (.dT kvs)) (hb : H b = some (.tup (ks.map kV))) (few : kvs.length < sizeLine) (rv : RelV v r) (h : ∀ s', Inv X ps σ (upd H D (.dT (putK kvs ks v))) s' → Q () s') : wpAny (model X.prog X.w) X.A (dictSet D (.ref b) r) Q E s := by
  obtain ⟨le, ns, xs, rel, dd⟩ := dt_of I.hok hD
  have grown := length_putK kvs ks v
  refine wpAny_dictSet_heap (hsz := Paired.length rel ▸ le) (tk_room room) (key_of I.hok hb) dd fun h' ⟨q, es, ep, g1, g2, g3, g4, _, g5⟩ but => h _ ?_
  refine d_write I (by rw [hD]; trivial) but ⟨q, g1⟩ ⟨by omega, ns, _, (rel.put ks hb rv).keeps fun c ys ec => ?_, q, es, ep, g1, g2, g3, g4, g5⟩
  have other : c ≠ D := ne_of ec hD fun z => nomatch z
  rw [upd_ne other]
  exact ec
/-- a turn's part of {k: v for ..} -/
def tPutT (tk tv : TE) : Addr → L2.St → Hp → (Hp → Prop) → Prop := fun D σ H Nx => tk σ H fun y H1 => tv σ H1 fun z H2 => ∃ kvs b ks, y = .ref b ∧ H2 b = some (.tup (ks.map kV)) ∧ H2 D = some (.dT kvs) ∧ kvs.length < sizeLine ∧ Nx (upd H2 D (.dT (putK kvs ks z)))
theorem pe_dcT {kx vx tg iter : Expr} {scope : Scope} {own : List (Str × Nat)} {pos : Pos} {wi : TI} {g : TG} {tk tv : TE} (room : X.A.units < cLine) (calm : X.calm = true) (nd : X.N.Nodup) (hi : PI X tg iter wi) (ok : BlkOk X.N X.env.scope scope own)
    (hg : ∀ (t : Shared) (Ht : Hp) (fp : List Addr), PG (X.blk t Ht scope (envAt t scope X.env) fp) tg g) (hk : ∀ (t : Shared) (Ht : Hp) (fp : List Addr), PE (X.blk t Ht scope (envAt t scope X.env) fp) kx tk)
    (hv : ∀ (t : Shared) (Ht : Hp) (fp : List Addr), PE (X.blk t Ht scope (envAt t scope X.env) fp) vx tv) (hs : ∀ x, foldedSetIterable iter X.env x = pure x) :
    PE X (.DictComp kx vx [⟨tg, iter, [], 0⟩] scope pos) (tBlk (fun _ => .dT []) wi g (tPutT tk tv) (own.map (·.2))) := by
  refine ⟨fun pins s σ H Q I h => ?_⟩
  rw [arm_eval_DictComp]
  refine blk_core (ob := { cls := .type "dict", data := .dict #[] }) (body := fun D env K E s1 => wpAny (model X.prog X.w) X.A (eval kx env) (fun a s2 => wpAny (model X.prog X.w) X.A (eval vx env) (fun b s3 => wpAny (model X.prog X.w) X.A (dictSet D a b) (fun _ s4 => K s4) E s3) E s2) E s1)
    calm nd I hi ok hg ?_ hs rfl (fun t K E h => wpAny_newObj_type h) (fun h0 Ht big => dt_empty h0 big) ?_ h fun D C s1 m H1 I1 q hn f => ⟨m, hn, fun hh sb => ?_⟩
  · intro t Ht fp D ps s1 σ1 H1 Nx K E I1 q out
    refine thnF ((hk t Ht fp).run ps s1 σ1 H1 _ I1 q) fun a s2 ⟨y, H2, I2, ry, q2⟩ => ?_
    refine thnF ((hv t Ht fp).run ps s2 σ1 H2 _ I2 q2) fun b s3 ⟨z, H3, I3, rz, kvs, bb, ks, ey, hb, hD, few, nx⟩ => ?_
    subst ey
    cases ry
    exact putT_ok (X := X.blk t Ht scope (envAt t scope X.env) fp) room I3 hD hb few rz fun s4 I4 => out _ s4 I4 nx
  · intro D it env R t J turn n hn again
    have lp : codeAny (model X.prog X.w) X.A (.compLoop (.DictComp kx vx [⟨tg, iter, [], 0⟩] scope pos) 0 (.ref it) (.ref D) env) R t := by
      refine compLoop_anyD J (fun n s1 j => wpAny_mono (turn n s1 j) (fun r s2 h2 => ?_) fun _ _ z => z) n hn
      cases r with
      | none => exact h2
      | some v =>
        refine wpAny_mono h2 (fun _ s3 h3 => wpAny_mono h3 (fun _ s4 h4 => ?_) fun _ _ z => z) fun _ _ z => z
        rw [List.forIn_nil]
        exact wpAny_pure (by rw [if_pos rfl]; exact h4)
    exact codeAny_compStart_dict lp (again lp)
  · obtain ⟨f0, f1, _, f3, f4, f5⟩ := f
    exact ⟨.ref D, H1, I1.turned (t' := s1.toks) (fun b o hb e => (sb.2 b hb).trans e) f0 f1 f3 f4 f5, rfl, q⟩
/-- .. of {e for ..}, e an int -/
def tAddI (w : World) (te : TE) : Addr → L2.St → Hp → (Hp → Prop) → Prop := fun D σ H Nx => te σ H fun y H1 => ∃ (i : Int) (S : Int → Bool) (n : Nat), y = .int i ∧ H1 D = some (SetO w D S n) ∧ n + 1 < scanBound ∧ Nx (upd H1 D (SetO w D (fun j => S j || decide (j = i)) (if S i = true then n else n + 1)))
theorem pe_scI {ex tg iter : Expr} {scope : Scope} {own : List (Str × Nat)} {pos : Pos} {wi : TI} {g : TG} {te : TE} (calm : X.calm = true) (nd : X.N.Nodup) (hi : PI X tg iter wi) (ok : BlkOk X.N X.env.scope scope own)
    (hg : ∀ (t : Shared) (Ht : Hp) (fp : List Addr), PG (X.blk t Ht scope (envAt t scope X.env) fp) tg g) (he : ∀ (t : Shared) (Ht : Hp) (fp : List Addr), PE (X.blk t Ht scope (envAt t scope X.env) fp) ex te) (hs : ∀ x, foldedSetIterable iter X.env x = pure x) :
    PE X (.SetComp ex [⟨tg, iter, [], 0⟩] scope pos) (tBlk (fun D => SetO X.w D (fun _ => false) 0) wi g (tAddI X.w te) (own.map (·.2))) := by
  refine ⟨fun pins s σ H Q I h => ?_⟩
  rw [PpSet.eval_SetComp]
  refine blk_core (ob := noSet X.w) (body := fun D env K E s1 => wpAny (model X.prog X.w) X.A (eval ex env) (fun a s2 => wpAny (model X.prog X.w) X.A (call (.builtin "set.add") [.ref D, a]) (fun _ s3 => K s3) E s2) E s1)
    calm nd I hi ok hg ?_ hs rfl (fun t K E h => PpSet.newSet_ok h) (fun h0 Ht big => setO_new (setR_fresh X.w)) ?_ h fun D C s1 m H1 I1 q hn f => ⟨m, hn, fun hh sb => ?_⟩
  · intro t Ht fp D ps s1 σ1 H1 Nx K E I1 q out
    refine thnF ((he t Ht fp).run ps s1 σ1 H1 _ I1 q) fun a s2 ⟨y, H2, I2, ry, i, S, n, ey, hD, few, nx⟩ => ?_
    subst ey
    obtain ⟨tk, rfl⟩ := ry
    refine setR_add (setO_get (X := X.blk t Ht scope (envAt t scope X.env) fp) I2 hD) few fun h' sb new => ?_
    obtain ⟨o, _, _, _, ho, _⟩ := id new
    exact out _ _ (I2.write (e := D) (t' := s2.toks + 1) (by rw [hD]; trivial) (.inl rfl) (fun b u hb hu => (sb.2 b hb).trans hu) ⟨o, ho⟩ (setO_new new)) nx
  · intro D it env R t J turn n hn again
    have lp : codeAny (model X.prog X.w) X.A (.compLoop (.SetComp ex [⟨tg, iter, [], 0⟩] scope pos) 0 (.ref it) (.ref D) env) R t := by
      refine PpSet.compLoopS_any J (fun n s1 j => wpAny_mono (turn n s1 j) (fun r s2 h2 => ?_) fun _ _ z => z) n hn
      cases r with
      | none => exact h2
      | some v =>
        refine wpAny_mono h2 (fun _ s3 h3 => wpAny_mono h3 (fun _ s4 h4 => ?_) fun _ _ z => z) fun _ _ z => z
        rw [List.forIn_nil]
        exact wpAny_pure (by rw [if_pos rfl]; exact h4)
    exact PpSet.codeAny_compStart_set lp (again lp)
  · obtain ⟨f0, f1, _, f3, f4, f5⟩ := f
    exact ⟨.ref D, H1, I1.turned (t' := s1.toks) (fun b o hb e => (sb.2 b hb).trans e) f0 f1 f3 f4 f5, rfl, q⟩
def rLenSI (w : World) : List V → Hp → VK → Prop := fun xs H Q => ∃ a S n, xs = [.ref a] ∧ H a = some (SetO w a S n) ∧ n < 1000000 ∧ Q (.int n) H
theorem cr_lenSI : CallR X (.builtin "len") (rLenSI X.w) := fun ps s σ H xs us Q I r ⟨a, S, n, e, ha, few, q⟩ => by
  subst e
  cases r with
  | cons r1 r2 =>
    cases r2
    cases r1
    obtain ⟨o, es, ep, t, ho, hex, hd, _, _, _, _, fit, size, _⟩ := setO_get I ha
    exact call_len_set ho hex hd fit (by omega) ⟨.int n, H, I.tok _, ⟨_, by rw [size]⟩, q⟩
end

/-! ### as denotations -/
def dcLoop (vs : List Nat) (t : Tgt) (fk fv : M D) : List D → List (List Key × D) → M (List (List Key × D))
  | [], acc => M.pure acc
  | d :: ds, acc => fun ρ => match t.set d ρ with
    | none => none
    | some ρ1 => match fk ρ1 with
      | some (.ok kd ρ2) => match fv ρ2 with
        | some (.ok vd ρ3) => match keyT kd with
          | some ks => if lenOk acc then dcLoop vs t fk fv ds (putL acc ks vd) (wipeS ρ3 vs) else none
          | none => none
        | _ => none
      | _ => none
def dcM (vs : List Nat) (t : Tgt) (fs : M (List D)) (fk fv : M D) : M Co := M.bind fs fun ds => fun ρ => match dcLoop vs t fk fv ds [] (wipeS ρ vs) with
  | some (.ok acc ρB) => some (.ok (.dT acc) (restS ρ vs ρB))
  | _ => none
/-- the ints that come, each once -/
def scLoop (vs : List Nat) (t : Tgt) (f : M D) : List D → List Int → M (List Int)
  | [], acc => M.pure acc
  | d :: ds, acc => fun ρ => match t.set d ρ with
    | none => none
    | some ρ1 => match f ρ1 with
      | some (.ok (.int i) ρ2) => if acc.length ≤ 60 then scLoop vs t f ds (if i ∈ acc then acc else acc ++ [i]) (wipeS ρ2 vs) else none
      | _ => none
def lenScM (vs : List Nat) (t : Tgt) (fs : M (List D)) (f : M D) : M D := M.bind fs fun ds => fun ρ => match scLoop vs t f ds [] (wipeS ρ vs) with
  | some (.ok acc ρB) => if acc.length ≤ 60 then some (.ok (.int acc.length) (restS ρ vs ρB)) else none
  | _ => none
section
variable {bb : Bool} {X : Cx} {G : Gx} {W : WX} {k : Nat} {pos p p2 p3 p4 : Pos} {a b e tg iter : Expr} {fa fb f : M D} {fs : M (List D)} {scope : Scope} {own : List (Str × Nat)} {t : Tgt} {vs : List Nat}
theorem tDcT_of (hv : own.map (·.2) = vs) (ht : ∀ i ∈ t.is, i ∈ vs) : ∀ σ H Q, tN G W (dcM vs t fs fa fb) σ H Q → tBlk (fun _ => .dT []) (tW G W fs) (tG G t) (tPutT (tI G W0 fa) (tI G W0 fb)) (own.map (·.2)) σ H Q := fun σ H Q ⟨F, ρ, τ, R, q⟩ => ⟨F, ρ, τ, R, (Fin.bind q).imp fun ds ρ1 F1 H1 s1 R1 q1 J hJ D hD => by
  rw [hv]
  match z : dcLoop vs t fa fb ds [] (wipeS ρ1 vs) with
  | none => simp only [z] at q1; exact q1.elim
  | some (.exc e ρ') => simp only [z] at q1; exact q1.elim
  | some (.ok accF ρB) =>
    simp only [z] at q1
    have Rn : Rep G F1 (upd H1 D (.dT [])) ρ1 σ ((D, .dT []) :: τ) := (R1.ext (Ext.loose _ R1.sub hD)).push upd_same (R1.sub.free hD) (R1.new_0 hD) (R1.free_new hD) (R1.new_tmp hD)
    refine ⟨fun i m H' => m = ds.length - i ∧ i ≤ ds.length ∧ ∃ F' ρ' acc kvs, Same F1 F' ∧ Rep G F' H' ρ' (wipe σ vs) ((D, .dT kvs) :: τ) ∧ kvs.map (·.1) = acc.map (·.1) ∧ RpA G.K F' (kvs.map (·.2)) (acc.map (·.2)) ∧ dcLoop vs t fa fb (ds.drop i) acc ρ' = some (.ok accF ρB),
      ⟨ds.length, by omega, Nat.zero_le _, F1, _, [], [], Same.refl _, Rn.wiped vs, rfl, .nil, z⟩, ?_⟩
    rintro i m H2 ⟨rfl, hi, F2, ρ2, acc, kvs, s2, R2, rk, rv, hr2⟩
    obtain ⟨go, stop⟩ := hJ i F2 H2 s2 R2.sub
    by_cases hlt : i < ds.length
    · obtain ⟨go1, yld⟩ := go _ (List.getElem?_eq_getElem hlt)
      rw [List.drop_eq_getElem_cons hlt] at hr2
      refine .inr ⟨go1, fun H' => ∃ F' ρ' acc kvs, Same F1 F' ∧ Rep G F' H' ρ' (wipe σ vs) ((D, .dT kvs) :: τ) ∧ kvs.map (·.1) = acc.map (·.1) ∧ RpA G.K F' (kvs.map (·.2)) (acc.map (·.2)) ∧ dcLoop vs t fa fb (ds.drop (i + 1)) acc ρ' = some (.ok accF ρB), fun H' h => ⟨ds.length - (i + 1), by omega, rfl, by omega, h⟩, fun x H3 hy => ?_⟩
      obtain ⟨F3, ex, rx⟩ := yld x H3 hy
      have R3 := R2.ext ex
      unfold dcLoop at hr2
      cases z : t.set ds[i] ρ2 with
      | none => simp only [z] at hr2; cases hr2
      | some ρ3 =>
        simp only [z] at hr2
        refine ⟨F3, ρ2, _, ds[i], ρ3, R3, rx, z, fun σ4 R4 hw => ?_⟩
        have ew : wipe σ4 vs = wipe σ vs := (hw vs ht).trans (wipe_self fun _ h => h)
        refine ⟨ew, F3, ρ3, _, R4, ?_⟩
        match y : fa ρ3 with
        | none => simp only [y] at hr2; cases hr2
        | some (.exc e ρ4) => simp only [y] at hr2; cases hr2
        | some (.ok kd ρ4) =>
          simp only [y] at hr2
          intro F5 H5 s5 R5 kv rkv
          refine ⟨F5, ρ4, _, R5, ?_⟩
          match u : fb ρ4 with
          | none => simp only [u] at hr2; cases hr2
          | some (.exc e ρ5) => simp only [u] at hr2; cases hr2
          | some (.ok vd ρ5) =>
            simp only [u] at hr2
            cases hk : keyT kd with
            | none => simp only [hk] at hr2; cases hr2
            | some ks =>
              simp only [hk] at hr2
              split at hr2
              · rename_i hl
                intro F6 H6 s6 R6 v rvv
                obtain ⟨bb, eb, hb⟩ := (rkv.mono s6).keyT hk
                obtain ⟨_, g1, _⟩ := R6.pop
                have rv6 := rv.mono (ex.f.trans (s5.trans s6))
                have ln : kvs.length = acc.length := by
                  have := congrArg List.length rk
                  rwa [List.length_map, List.length_map] at this
                obtain ⟨k1, k2⟩ := putL_rel (k := ks) rk rv6 rvv
                refine ⟨kvs, bb, ks, eb, R6.sub _ _ hb, g1, by rw [ln]; exact lenOk_lt hl, F6, wipeS ρ5 vs, _, _, s2.trans (ex.f.trans (s5.trans s6)), ?_, k1, k2, hr2⟩
                rw [← ew]
                exact (R6.wtmp _).wiped vs
              · cases hr2
    · have e0 : i = ds.length := by omega
      subst e0
      rw [List.drop_length] at hr2
      unfold dcLoop at hr2
      cases hr2
      have R4 := R1.rested s2 R2
      obtain ⟨R3, g1, g2, g3, g4, g5⟩ := R4.pop
      exact .inl ⟨stop rfl, q1 F2 H2 s2 R3 D ⟨_, g1, ⟨kvs, rfl, rk, rv⟩, g2, g3, g4, g5⟩⟩⟩
abbrev InBlk (X : Cx) (G : Gx) (k : Nat) (scope : Scope) (P : Cx → Prop) : Prop := ∀ (s : Shared) (H : Hp) (C : Addr) (cl : List (Str × Addr)) (fp : List Addr), Kx true (X.blk s H scope (compEnvC scope cl C X.env) fp) G W0 k → P (X.blk s H scope (compEnvC scope cl C X.env) fp)
theorem en_dc (c : Kx true X G W k) (hi : PI X tg iter (tW G W fs)) (ok : BlkOk X.N X.env.scope scope own) (hv : own.map (·.2) = vs := by rfl) (ht : ∀ i ∈ t.is, i ∈ vs := by decide) (hg : InBlk X G k scope fun Y => PG Y tg (tG G t)) (hk : InBlk X G k scope fun Y => PE Y a (tI G W0 fa)) (hb : InBlk X G k scope fun Y => PE Y b (tI G W0 fb))
    (hs : ∀ x, foldedSetIterable iter X.env x = pure x := by intro _; rfl) : PE X (.DictComp a b [⟨tg, iter, [], 0⟩] scope pos) (tN G W (dcM vs t fs fa fb)) :=
  PE.imp (pe_dcT (by have := c.u64; omega) (c.calm rfl) c.nd hi ok (fun s H fp => hg s H _ _ fp (c.blk ..)) (fun s H fp => hk s H _ _ fp (c.blk ..)) (fun s H fp => hb s H _ _ fp (c.blk ..)) hs) (tDcT_of hv ht)
theorem ei_lenSc (c : Kx true X G W k) (hm : X.mg "len" = none) (hi : PI X tg iter (tW G W fs)) (ok : BlkOk X.N X.env.scope scope own) (hv : own.map (·.2) = vs := by rfl) (ht : ∀ i ∈ t.is, i ∈ vs := by decide) (hg : InBlk X G k scope fun Y => PG Y tg (tG G t)) (hb : InBlk X G k scope fun Y => PE Y a (tI G W0 f))
    (hgl : Gl X "len" := by rfl) (he : starEach [.SetComp a [⟨tg, iter, [], 0⟩] scope p2] X.env = (false, eval (.SetComp a [⟨tg, iter, [], 0⟩] scope p2) X.env) :: starEach [] X.env := by rfl)
    (hs : ∀ x, foldedSetIterable iter X.env x = pure x := by intro _; rfl) : PE X (.Call (.Name "len" p) [.SetComp a [⟨tg, iter, [], 0⟩] scope p2] [] pos) (tI G W (lenScM vs t fs f)) :=
  PE.imp (pe_callB cr_lenSI hgl hm PySem.boot_len (pa_cons (pe_scI (c.calm rfl) c.nd hi ok (fun s H fp => hg s H _ _ fp (c.blk ..)) (fun s H fp => hb s H _ _ fp (c.blk ..)) hs) pa_nil he) (by decide) (by decide) he rfl) fun σ H Q ⟨F, ρ, τ, R, q⟩ => ⟨F, ρ, τ, R, (Fin.bind q).imp fun ds ρ1 F1 H1 s1 R1 q1 J hJ D hD => by
  rw [hv]
  match z : scLoop vs t f ds [] (wipeS ρ1 vs) with
  | none => simp only [z] at q1; exact q1.elim
  | some (.exc e ρ') => simp only [z] at q1; exact q1.elim
  | some (.ok accF ρB) =>
    simp only [z] at q1
    split at q1
    · rename_i few
      have Rn : Rep G F1 (upd H1 D (SetO X.w D (fun _ => false) 0)) ρ1 σ ((D, SetO X.w D (fun _ => false) 0) :: τ) := (R1.ext (Ext.loose _ R1.sub hD)).push upd_same (R1.sub.free hD) (R1.new_0 hD) (R1.free_new hD) (R1.new_tmp hD)
      refine ⟨fun i m H' => m = ds.length - i ∧ i ≤ ds.length ∧ ∃ F' ρ' acc S, Same F1 F' ∧ Rep G F' H' ρ' (wipe σ vs) ((D, SetO X.w D S acc.length) :: τ) ∧ (∀ j, S j = decide (j ∈ acc)) ∧ scLoop vs t f (ds.drop i) acc ρ' = some (.ok accF ρB),
        ⟨ds.length, by omega, Nat.zero_le _, F1, _, [], _, Same.refl _, Rn.wiped vs, fun j => (by simp), z⟩, ?_⟩
      rintro i m H2 ⟨rfl, hi, F2, ρ2, acc, S, s2, R2, hS, hr2⟩
      obtain ⟨go, stop⟩ := hJ i F2 H2 s2 R2.sub
      by_cases hlt : i < ds.length
      · obtain ⟨go1, yld⟩ := go _ (List.getElem?_eq_getElem hlt)
        rw [List.drop_eq_getElem_cons hlt] at hr2
        refine .inr ⟨go1, fun H' => ∃ F' ρ' acc S, Same F1 F' ∧ Rep G F' H' ρ' (wipe σ vs) ((D, SetO X.w D S acc.length) :: τ) ∧ (∀ j, S j = decide (j ∈ acc)) ∧ scLoop vs t f (ds.drop (i + 1)) acc ρ' = some (.ok accF ρB), fun H' h => ⟨ds.length - (i + 1), by omega, rfl, by omega, h⟩, fun x H3 hy => ?_⟩
        obtain ⟨F3, ex, rx⟩ := yld x H3 hy
        have R3 := R2.ext ex
        unfold scLoop at hr2
        cases z : t.set ds[i] ρ2 with
        | none => simp only [z] at hr2; cases hr2
        | some ρ3 =>
          simp only [z] at hr2
          refine ⟨F3, ρ2, _, ds[i], ρ3, R3, rx, z, fun σ4 R4 hw => ?_⟩
          have ew : wipe σ4 vs = wipe σ vs := (hw vs ht).trans (wipe_self fun _ h => h)
          refine ⟨ew, F3, ρ3, _, R4, ?_⟩
          match y : f ρ3 with
          | none => simp only [y] at hr2; cases hr2
          | some (.exc e ρ4) => simp only [y] at hr2; cases hr2
          | some (.ok vd ρ4) =>
            simp only [y] at hr2
            intro F5 H5 s5 R5 v rv
            obtain ⟨_, g1, _⟩ := R5.pop
            cases vd with
            | int j =>
              simp only at hr2
              split at hr2
              · rename_i hl
                cases rv
                refine ⟨j, S, acc.length, rfl, g1, Nat.lt_of_le_of_lt (show acc.length + 1 ≤ 61 by omega) (by decide), F5, wipeS ρ4 vs, if j ∈ acc then acc else acc ++ [j], fun x => S x || decide (x = j), s2.trans (ex.f.trans s5), ?_, fun x => ?_, hr2⟩
                · have ln : (if S j = true then acc.length else acc.length + 1) = (if j ∈ acc then acc else acc ++ [j]).length := by
                    have e := hS j
                    by_cases hj : j ∈ acc
                    · rw [if_pos hj, if_pos (by rw [e]; exact decide_eq_true hj)]
                    · rw [if_neg hj, if_neg (by rw [e, decide_eq_true_eq]; exact hj), List.length_append, List.length_singleton]
                  rw [← ew, ← ln]
                  exact (R5.wtmp _).wiped vs
                · show (S x || decide (x = j)) = _
                  rw [hS x]
                  by_cases hj : j ∈ acc
                  · rw [if_pos hj]
                    by_cases hx : x = j
                    · subst hx; simp [hj]
                    · simp [hx]
                  · rw [if_neg hj]
                    simp [List.mem_append]
              · cases hr2
            | _ => simp only at hr2; cases hr2
      · have e0 : i = ds.length := by omega
        subst e0
        rw [List.drop_length] at hr2
        unfold scLoop at hr2
        cases hr2
        have R4 := R1.rested s2 R2
        obtain ⟨R3, g1, g2, g3, g4, g5⟩ := R4.pop
        exact .inl ⟨stop rfl, D, S, accF.length, rfl, g1, by omega, q1 F2 H2 s2 R3 _ (.int _)⟩
    · exact q1.elim⟩
end
end Dn

/-! sorted(set(x)), x a list of pairs of small numbers -/
namespace Dn
open PySem PySem.Spec PyProof.Rows L2
def smallP (z : Int × Int) : Bool := decide (0 ≤ z.1 ∧ z.1 < 64 ∧ 0 ≤ z.2 ∧ z.2 < 64)
def sortSetD : D → Option Co
  | .lst l => match pairsOf l with
    | some zs => if zs.length < 64 ∧ zs.all smallP = true then some (.lst ((isort leP (once zs)).map pD)) else none
    | none => none
  | _ => none
section
variable {bb : Bool} {X : Cx} {G : Gx} {W : WX} {k : Nat} {pos p p2 q2 : Pos} {e : Expr} {f : M D}
theorem Perm_of {α : Type} [DecidableEq α] : ∀ {l m : List α}, l.Nodup → m.Nodup → (∀ x, x ∈ l ↔ x ∈ m) → l.Perm m := fun {l m} h1 h2 h => (List.perm_ext_iff_of_nodup h1 h2).mpr h
theorem pair_of {zs : List (Int × Int)} {ks : List (Addr × List Int)} (h : ks.map (·.2) = zs.map (fun z => [z.1, z.2])) : ∀ q ∈ ks, ∃ z ∈ zs, q.2 = [z.1, z.2] := fun q hq => by
  have m : q.2 ∈ zs.map (fun z => [z.1, z.2]) := h ▸ List.mem_map_of_mem hq
  obtain ⟨z, hz, e⟩ := List.mem_map.mp m
  exact ⟨z, hz, e.symm⟩
theorem rp_pair {K : PySem.W.Frag} {F : Hp} {a : Addr} {x y : Int} (h : F a = some (.tup ([x, y].map V.int))) : Rp K F (.ref a) (pD (x, y)) := .tup h (.cons (.int x) (.cons (.int y) .nil))
theorem en_sortSet (c : Kx true X G W k) (hm : X.mg "sorted" = none) (hm2 : X.mg "set" = none) (ha : PE X e (tI G W f)) (hg : Gl X "sorted" := by rfl) (hg2 : Gl X "set" := by rfl) (he : starEach [e] X.env = (false, eval e X.env) :: starEach [] X.env := by rfl)
    (he2 : starEach [.Call (.Name "set" p2) [e] [] q2] X.env = (false, eval (.Call (.Name "set" p2) [e] [] q2) X.env) :: starEach [] X.env := by rfl) :
    PE X (.Call (.Name "sorted" p) [.Call (.Name "set" p2) [e] [] q2] [] pos) (tN G W (M.bind f fun d => M.lift (sortSetD d))) :=
  PE.imp (pe_callB (cr_sortedT (c.calm rfl)) hg hm PyProof.Rows.boot_sorted (pa_cons (pe_callTy (cr_setOfT (c.calm rfl) c.u64) hg2 hm2 PyProof.Rows.boot_set (pa_cons ha pa_nil he) (by decide) (by decide) he rfl) pa_nil he2) (by decide) (by decide) he2 rfl) fun σ H Q ⟨F, ρ, τ, R, q⟩ => ⟨F, ρ, τ, R, (Fin.bind q).imp fun d ρ1 F1 H1 s1 R1 q1 v rv => by
    obtain ⟨d', ed, z⟩ := Fin.lift q1
    unfold sortSetD at ed
    split at ed
    · split at ed
      · rename_i l zs hp
        split at ed
        · rename_i hn
          cases ed
          have el := pairsOf_eq hp
          subst el
          cases rv with
          | lst g r =>
            obtain ⟨ks, e1, e2, e3⟩ := refs_pairs r
            subst e1
            have ln : ks.length = zs.length := by
              have := congrArg List.length e2
              rwa [List.length_map, List.length_map] at this
            refine ⟨_, ks, rfl, .of (R1.sub _ _ g), fun q hq => .of (R1.sub _ _ (e3 q hq)), by rw [ln]; exact hn.1, fun a L hA sub all => ?_⟩
            have small : ∀ q ∈ ks, ∃ z ∈ zs, q.2 = [z.1, z.2] ∧ 0 ≤ z.1 ∧ z.1 < 64 ∧ 0 ≤ z.2 ∧ z.2 < 64 := fun q hq => by
              obtain ⟨z, hz, ez⟩ := pair_of e2 q hq
              exact ⟨z, hz, ez, of_decide_eq_true (List.all_eq_true.mp hn.2 z hz)⟩
            have R2 : Rep G F1 (upd H1 a (SetTO X.prog X.w a L)) ρ1 σ τ := R1.ext (Ext.loose _ R1.sub hA)
            refine ⟨a, L, 2, 64, rfl, upd_same, fun q hq => ?_, by decide, fun q hq => ?_, fun L' p' pm nd few srt hp' => ?_⟩
            · exact .of (R2.sub _ _ (e3 q (sub q hq)))
            · obtain ⟨z, _, ez, b⟩ := small q (sub q hq)
              rw [ez]
              refine ⟨rfl, fun n hn => ?_⟩
              rcases List.mem_cons.mp hn with rfl | hn
              · omega
              · rw [List.mem_singleton.mp hn]; omega
            · -- the sorted list's pairs
              let pr : Addr × List Int → Int × Int := fun q => (q.2.getD 0 0, q.2.getD 1 0)
              have prq : ∀ q ∈ L', ∃ z ∈ zs, q.2 = [z.1, z.2] ∧ pr q = z ∧ 0 ≤ z.1 ∧ z.1 < 64 ∧ 0 ≤ z.2 ∧ z.2 < 64 := fun q hq => by
                obtain ⟨z, hz, ez, b⟩ := small q (sub q (pm.mem_iff.mp hq))
                refine ⟨z, hz, ez, ?_, b⟩
                show (q.2.getD 0 0, q.2.getD 1 0) = z
                rw [ez]
                rfl
              have same : L'.map pr = isort leP (once zs) := by
                refine sorted_uniq (le := fun a b => leP a b = true) leP_anti ?_ ?_ (isort_sorted leP_tot leP_tr _)
                · refine (Perm_of ?_ (nodup_once zs) fun x => ?_).trans (isort_perm (once zs)).symm
                  · rw [List.nodup_iff_pairwise_ne, List.pairwise_map]
                    rw [List.nodup_iff_pairwise_ne, List.pairwise_map] at nd
                    refine List.Pairwise.imp_of_mem (fun {x y} hx hy ne e => ne ?_) nd
                    obtain ⟨z1, _, f1, g1, _⟩ := prq x hx
                    obtain ⟨z2, _, f2, g2, _⟩ := prq y hy
                    rw [f1, f2, ← g1, ← g2, e]
                  · rw [mem_once, List.mem_map]
                    constructor
                    · rintro ⟨q, hq, rfl⟩
                      obtain ⟨z, hz, _, g1, _⟩ := prq q hq
                      rw [g1]; exact hz
                    · intro hx
                      have m : [x.1, x.2] ∈ ks.map (·.2) := by rw [e2]; exact List.mem_map.mpr ⟨x, hx, rfl⟩
                      obtain ⟨q, hq, eq⟩ := List.mem_map.mp m
                      obtain ⟨q2, hq2, eq2⟩ := List.mem_map.mp (all q hq)
                      have h2 : q2 ∈ L' := pm.mem_iff.mpr hq2
                      refine ⟨q2, h2, ?_⟩
                      show (q2.2.getD 0 0, q2.2.getD 1 0) = x
                      rw [eq2, eq]
                      rfl
                · rw [List.pairwise_map]
                  refine List.Pairwise.imp_of_mem (fun {x y} hx hy hle => ?_) srt
                  obtain ⟨z1, _, f1, g1, b1⟩ := prq x hx
                  obtain ⟨z2, _, f2, g2, b2⟩ := prq y hy
                  rw [g1, g2, leP_iff]
                  by_cases ee : z1 = z2
                  · subst ee; omega
                  · rw [f1, f2] at hle
                    have := pair_lt hle (fun h => ee (by
                      simp only [List.cons.injEq, and_true] at h
                      exact Prod.ext h.1 h.2)) (by omega) (by omega) (by omega) (by omega)
                    omega
              obtain ⟨R3, fr⟩ := R2.newly (c := .lst ((isort leP (once zs)).map pD)) (o := .lst (L'.map fun q => V.ref q.1)) hp' ⟨_, rfl, by
                rw [← same]
                have each : ∀ {M : List (Addr × List Int)}, (∀ q ∈ M, q ∈ L') → RpA G.K F1 (M.map fun q => V.ref q.1) ((M.map pr).map pD) := fun {M} => by
                  induction M with
                  | nil => intro _; exact .nil
                  | cons q M ih =>
                    intro hM
                    refine .cons ?_ (ih fun x hx => hM x (List.mem_cons_of_mem _ hx))
                    have hq := hM q (List.mem_cons_self ..)
                    obtain ⟨z, _, f1, g1, _⟩ := prq q hq
                    rw [g1]
                    have hf := e3 q (sub q (pm.mem_iff.mp hq))
                    rw [f1] at hf
                    exact rp_pair hf
                exact each fun q hq => hq⟩
              exact z F1 _ (Same.refl _) R3 p' fr
        · cases ed
      · cases ed
    · cases ed⟩
end
end Dn

set_option maxHeartbeats 2000000
/-! In an except suite: a walk over a tuple, two names at once; raise; try .. except C as n -/
namespace Dn
open PySem PySem.Spec PyProof.Rows L2
section
variable {prog : Program} {w : World} {A : Around} {E : Value → Shared → Prop} {s : Shared}
/-- a tuple's walk ends while an exception is handled -/
theorem tup_stop {jt tt x1 : Addr} {n : Nat} {its : Array Value} {Q : Option Value → Shared → Prop} (hot : HotX.HotAt A x1 s.heap) (gj : s.heap.IsTupleIter jt tt n) (gt : s.heap.IsTuple tt its) (gn : its[n]? = none)
    (hQ : ∀ h', Heap.ExtBut jt s.heap h' → Q none { s with heap := h' }) : wpAny (model prog w) A (pyNext (.ref jt)) Q E s := by
  obtain ⟨oj, j1, j2, j3⟩ := id gj
  obtain ⟨ot, t1, _, _, t3⟩ := gt
  obtain ⟨hh, o1, vs1, h1, d1, c1⟩ := hot
  have hx : jt ≠ x1 := fun e => by
    rw [← e, j1] at h1
    cases h1
    rw [j3] at d1
    cases d1
    cases c1
  unfold pyNext
  refine wpAny_bind (wpAny_attempt (wpAny_callSpecial?_slot (name := Str.ofString "__next__") gj.typeIs PySem.F.slot_tuple_iterator_next (wpAny_call_entry PySem.F.slot_tuple_iterator_next gj.typeIs PySem.F.entry_tuple_iterator_next ?_ (PySem.F.args_tuple_iterator_next_1 _))))
  show wpAny _ _ (field (.ref jt) 0 >>= _) _ _ s
  refine wpAny_bind (wpAny_field j1 j3 (x := .ref tt) rfl ?_)
  show wpAny _ _ (if (Value.ref tt == Value.none) = true then _ else _) _ _ s
  rw [if_neg (fun z : (Value.ref tt == Value.none) = true => Bool.false_ne_true z)]
  show wpAny _ _ (field (.ref jt) 1 >>= _) _ _ s
  refine wpAny_bind (wpAny_field j1 j3 (x := .int n 0) rfl ?_)
  show wpAny _ _ (seqItems? (.ref tt) >>= _) _ _ s
  refine wpAny_bind (wpAny_seqItems t1 t3 ?_)
  simp only [Int.toNat_natCast, gn]
  refine wpAny_bind (wpAny_rule (wpAny_bind (wpAny_setField j1 j3 (by simp) ?_)))
  refine wpAny_bind (m := newExc (.type "StopIteration") []) ?_
  simp only [newExc, newTuple]
  refine wpAny_bind <| wpAny_newObj_type ?_ (by size_fits)
  refine wpAny_bind (m := firstArgMember _ _) <| wpAny_of_eq (a := Value.none) (by first | rfl | (simp only [firstArgMember]; rfl)) ?_
  refine (wpAny_newObj_type ?_ (by size_fits))
  refine HotX.raiseNew_hot ⟨hh, o1, vs1, Heap.get?_push_of_some _ (Heap.get?_push_of_some _ ((Heap.get?_update_other _ _ hx).trans h1)), d1, c1⟩ (Nat.ne_of_lt (Heap.lt_size (Heap.get?_push_of_some _ ((Heap.get?_update_other _ _ hx).trans h1)))) (Heap.get?_push_size _ rfl) rfl (by first | (simp; done) | (simp; omega) | (simp only [Array.size_append]; simp; omega)) ?_
  refine wpAny_bind (wpAny_isInstance (T := "StopIteration") (b := true) ⟨_, Heap.get?_update_self _ (Heap.get?_push_size _ rfl) rfl, rfl⟩ isSubtype_stop <| wpAny_pure <| hQ _ fun b o hb e => ?_)
  rw [Heap.get?_update_other _ _ (Nat.ne_of_gt (Heap.lt_size (Heap.get?_push_of_some _ ((Heap.get?_update_other _ _ (Ne.symm hb)).trans e))))]
  exact Heap.get?_push_of_some _ (Heap.get?_push_of_some _ ((Heap.get?_update_other _ _ (Ne.symm hb)).trans e))
/-- .. all of its items at once -/
theorem tup_items {tt x1 : Addr} {its : Array Value} {Q : List Value → Shared → Prop} (hot : HotX.HotAt A x1 s.heap) (gt : s.heap.IsTuple tt its)
    (hQ : ∀ h', Heap.ExtBut s.heap.objs.size s.heap h' → Q its.toList { s with heap := h' }) : wpAny (model prog w) A (unpackItems (.ref tt) its.size none) Q E s := by
  have hlt : tt ≠ s.heap.objs.size := let ⟨o, ho, _⟩ := gt; Nat.ne_of_lt (Heap.lt_size ho)
  obtain ⟨hh, o1, vs1, h1, d1, c1⟩ := hot
  unfold unpackItems notIterableAtAll
  refine wpAny_bind (wpAny_bind (wpAny_specialOf gt.typeIs slot_tuple_iter.lookup (wpAny_pure ?_)))
  simp only [Bool.false_eq_true, if_false]
  refine wpAny_bind (wpAny_holding (iter_tuple (items := its) gt (wpAny_bind (wpAny_holding (draw_tuple hlt its.size 0 _ _ ⟨_, Heap.get?_push_size _ rfl, rfl, rfl⟩ (IsTup.push gt _) (by omega) fun g1 j1 sb1 => ?_)))))
  rw [show List.take its.size (List.drop 0 its.toList) = its.toList from List.take_of_length_le (by simp), if_neg (by simp)]
  have k1 : g1.get? x1 = some o1 := sb1.extBut _ _ (Nat.ne_of_lt (Heap.lt_size h1)) (Heap.get?_push_of_some _ h1)
  refine wpAny_bind (wpAny_holding (tup_stop ⟨hh, o1, vs1, k1, d1, c1⟩ j1 (IsTup.extBut (IsTup.push gt _) sb1.extBut hlt) (by simp) fun g2 e2 => ?_))
  simp only [Option.isSome_none, Bool.false_eq_true, if_false]
  exact wpAny_pure (hQ g2 fun b o hb e => e2 b o hb (sb1.extBut b o hb (Heap.get?_push_of_some _ e)))
end
/-! ### a walk over a tuple -/
theorem turn_tupH {P : Program} {w : World} {K : PySem.W.Frag} {tg : Expr} (a it : Addr) : L2H.TurnH P w K tg (Itt K a) [it] it (fun i h => h.IsTupleIter it a i) where
  mem := List.mem_singleton.mpr rfl
  obj := fun i h st => (turn_tuple (P := P) (w := w) (K := K) (tg := tg) a it).obj i h st
  keep := (turn_tuple (P := P) (w := w) (K := K) (tg := tg) a it).keep
  item := by
    rintro X rfl rfl rfl _ i pins s σ H E I hf st ⟨xs, x, hq, hx⟩
    obtain ⟨its, rv, pl, _⟩ := I.tuple hq
    obtain ⟨u, hu, ru⟩ := rv.get hx
    have f := hf it (List.mem_singleton.mpr rfl)
    refine wpAny_pyNext_tuple_item st (show s.heap.IsTuple a its.toArray from pl) (x := u) (by simpa using hu) fun g st' sb => ?_
    obtain ⟨o, e, c, d⟩ := id st'
    refine ⟨u, rfl, go_of (s := { s with heap := g }) e c d (by decide) ⟨x, H, ?_, ru, ⟨rfl, fun ys hy => (I.tuple_inj hy hq) ▸ hx⟩, st', fun b hb => (hf b hb).1⟩⟩
    exact I.turned (t' := s.toks) (fun b o hb e => (sb.2 b hb).trans e) f.1 f.2.1 f.2.2.2.1 f.2.2.2.2.1 f.2.2.2.2.2
  done := by
    rintro X rfl rfl rfl hc i pins s σ H E I hf st ⟨xs, hq, hx⟩
    obtain ⟨its, rv, pl, _⟩ := I.tuple hq
    have f := hf it (List.mem_singleton.mpr rfl)
    have hl := rv.length
    obtain ⟨x1, hot⟩ := hc.at I
    exact tup_stop hot st (show s.heap.IsTuple a its.toArray from pl) (by simp; omega) fun g eb => ⟨rfl, I.turned (t' := s.toks) (fun b o hb e => eb b o hb e) f.1 f.2.1 f.2.2.2.1 f.2.2.2.2.1 f.2.2.2.2.2⟩
  self := (turn_tuple (P := P) (w := w) (K := K) (tg := tg) a it).self
/-- .. of the data of an expression that is a tuple -/
def tseqM (f : M D) : M (List D) := M.bind f fun d => M.lift (match d with | .tup l => some l | _ => none)
section
variable {bb : Bool} {X : Cx} {G : Gx} {W : WX} {k : Nat} {pos p p2 p3 p4 : Pos} {a b c e tg iter : Expr} {es : List Expr} {fa fb fc f : M D} {fs : M (List D)} {g h : M Out} {body : List Stmt}
theorem pi_tupH {l : Expr} {tl : TE} (hl : PE X l tl) : L2H.PIH X tg l (fun σ H R => tl σ H fun x H1 => ∃ a xs, x = .ref a ∧ SqT X.K H1 a xs ∧ R (Itt X.K a) H1) := ⟨fun pins s σ H R I h => thn (hl.run pins s σ H _ I h) fun v s1 ⟨x, H1, I1, r1, a, xs, ex, hq, q⟩ => by
  subst ex
  cases r1
  obtain ⟨its, rv, pl, _⟩ := I1.tuple hq
  exact wpAny_pyIter_tuple (show s1.heap.IsTuple a its.toArray from pl) ⟨_, [s1.heap.objs.size], _, _, H1, rfl, I1.kept (t' := s1.toks) fun b o e => Heap.get?_push_of_some _ e, turn_tupH a _, ⟨_, Heap.get?_push_size _ rfl, rfl, rfl⟩, fun b hb => by
    rw [List.mem_singleton.mp hb]
    exact I1.fpOk (Nat.le_refl _) (I1.hok.fresh (Nat.le_refl _)), q⟩⟩
theorem tW_tup {σ : L2.St} {H : Hp} {R : It → Hp → Prop} (hq : tW G W (tseqM f) σ H R) : tI G W f σ H fun x H1 => ∃ a xs, x = .ref a ∧ SqT G.K H1 a xs ∧ R (Itt G.K a) H1 := by
  obtain ⟨F, ρ, τ, R0, q⟩ := hq
  refine ⟨F, ρ, τ, R0, (Fin.bind q).imp fun d ρ1 F1 H1 s1 R1 q1 v rv => ?_⟩
  obtain ⟨ds, e, z⟩ := Fin.lift q1
  cases d with
  | tup l =>
    cases e
    cases rv with
    | tup hh r => exact ⟨_, _, rfl, .of (R1.sub _ _ hh), z F1 H1 (Same.refl _) R1 _ (iter_tup hh r)⟩
  | _ => cases e
theorem ew_tupH (c : Kx bb X G W k) (he : PE X e (tI G W f)) : L2H.PIH X tg e (tW G W (tseqM f)) := ⟨fun pins s σ H R I q => (pi_tupH he).run pins s σ H R I (by
  have := tW_tup q
  rw [c.hK] at this
  exact this)⟩
theorem ew_tup (c : Kx bb X G W k) (he : PE X e (tI G W f)) : PI X tg e (tW G W (tseqM f)) := ⟨fun pins s σ H R I q => (pi_seq he).run pins s σ H R I (by
  obtain ⟨F, ρ, τ, R0, z⟩ := tW_tup q
  refine ⟨F, ρ, τ, R0, z.imp fun d ρ1 F1 H1 s1 R1 q1 v rv => ?_⟩
  obtain ⟨a, xs, e1, e2, e3⟩ := q1 v rv
  rw [c.hK] at e2 e3
  exact ⟨a, e1, .inr ⟨⟨xs, e2⟩, e3⟩⟩)⟩
/-- for over a tuple, wherever -/
theorem es_forT {t : Tgt} (c : Kx bb X G W k) (hp : PassesOwn (model X.prog X.w) X.A X.env X.xe) (he : PE X e (tI G W f)) (hg : PG X tg (tG G t)) (hb : PSs X body (tS G W g)) (hs : ∀ x, foldedSetIterable e X.env x = pure x := by intro _; rfl) :
    PS X (.For tg e body [] pos) (tS G W (forM t (tseqM f) g)) := by
  cases bb with
  | true => exact PS.imp (ps_for hp (c.calm rfl) (ew_tup c he) hg hb hs) tFor_of
  | false => exact PS.imp (L2H.ps_forH hp (c.hot rfl).1 (ew_tupH c he) hg hb hs) tFor_of

end
end Dn

set_option maxHeartbeats 2000000
/-! Two names at once, wherever -/
namespace Dn
open PySem PySem.Spec PyProof.Rows L2
section
variable {bb : Bool} {X : Cx} {G : Gx} {W : WX} {k : Nat} {pos p p2 p3 p4 : Pos} {a b c e tg iter : Expr} {es : List Expr} {fa fb fc f : M D} {fs : M (List D)} {g h : M Out} {body : List Stmt}
/-! ### two names at once -/
theorem ps_parH {i j : Nat} {x y : Str} {ta : TA} {px py pt : Pos} {kt k2 pt2} (hot : L2H.HotC X) (hN : X.N.Nodup) (hi : X.N[i]? = some x) (hj : X.N[j]? = some y) (hij : i ≠ j)
    (hx : X.env.scope.names.lookup x = some .local) (hy : X.env.scope.names.lookup y = some .local) (ha : PA X [a, b] ta) (hw : swappedStores [.Tuple [.Name x px, .Name y py] kt pt] (.Tuple [a, b] k2 pt2) X.env = pure (some [x, y]))
    (hs : swapsWithSole [.Tuple [.Name x px, .Name y py] kt pt] (.Tuple [a, b] k2 pt2) pos.line X.env = pure false) : PS X (.Assign [.Tuple [.Name x px, .Name y py] kt pt] (.Tuple [a, b] k2 pt2) pos) (tPar i j ta) := ⟨fun pins s σ H D I h => by
  rw [exec_Assign_arm, hs, hw]
  refine wpAny_bind <| wpAny_standAt <| wpAny_bind <| wpAny_pure ?_
  rw [if_neg Bool.false_ne_true]
  refine wpAny_bind <| Tuple_ <| thn (ha.run _ pins s σ H _ I h) fun us s1 ⟨vs, H1, I1, r1, v, w, e1, q1⟩ => ?_
  subst e1
  have two : ∃ u u', us = [u, u'] ∧ RelV v u ∧ RelV w u' := by
    cases r1 with
    | cons r r2 => cases r2 with
      | cons r' r3 => cases r3; exact ⟨_, _, rfl, r, r'⟩
  obtain ⟨u, u', e2, ru, ru'⟩ := two
  subst e2
  have I2 := I1.kept (h' := s1.heap.push { cls := .type "tuple", data := .seq [u, u'].toArray }) (t' := s1.toks) fun b o e => Heap.get?_push_of_some _ e
  obtain ⟨x1, ht⟩ := hot.at I2
  refine wpAny_newObj_type (wpAny_bind <| wpAny_pure ?_) (by show 2 ≤ sizeLine; decide)
  show wpAny (model X.prog X.w) X.A (do rule "assign.swapped-stores"; let l ← unpackItems (.ref s1.heap.objs.size) 2 none; assignInOrder [fun z => bindName X.env y z, fun z => bindName X.env x z] l.reverse; pure Flow.next) _ _ _
  refine wpAny_bind <| wpAny_rule <| wpAny_bind <| tup_items (its := #[u, u']) ht (IsTup.new s1.heap _) fun g hg => ?_
  have I3 := I2.kept (h' := g) (t' := s1.toks) fun b o e => hg b o (Nat.ne_of_lt (Heap.lt_size e)) e
  show wpAny _ _ (assignInOrder [fun z => bindName X.env y z, fun z => bindName X.env x z] [u', u] >>= fun _ => pure Flow.next) _ _ _
  refine wpAny_bind <| assignInOrder_cons <| wpAny_bindName <| store_ok I3 hN hj (.inl hy) ru' (fun s2 I4 => ?_) (.inr hy)
  refine assignInOrder_cons <| wpAny_bindName <| store_ok I4 hN hi (.inl hx) ru (fun s3 I5 => assignInOrder_nil <| wpAny_pure ?_) (.inr hx)
  exact ⟨_, H1, List.set_comm _ _ (Ne.symm hij) ▸ I5, q1⟩⟩
theorem es_par2B {i j : Nat} {x y : Str} {P Q : Pt} {px py pt pt2 : Pos} {kt k2 : Nat} (cx : Kx bb X G W k) (ha : PtOk X G W a P) (hb : PtOk X G W b Q) (hi : X.N[i]? = some x := by rfl) (hj : X.N[j]? = some y := by rfl) (hij : i ≠ j := by decide)
    (hx : X.env.scope.names.lookup x = some .local := by rfl) (hy : X.env.scope.names.lookup y = some .local := by rfl) (h1 : starEach [a, b] X.env = (false, eval a X.env) :: starEach [b] X.env := by rfl) (h2 : starEach [b] X.env = (false, eval b X.env) :: starEach [] X.env := by rfl)
    (hw : swappedStores [.Tuple [.Name x px, .Name y py] kt pt] (.Tuple [a, b] k2 pt2) X.env = pure (some [x, y]) := by rfl)
    (hs : swapsWithSole [.Tuple [.Name x px, .Name y py] kt pt] (.Tuple [a, b] k2 pt2) pos.line X.env = pure false := by rfl) :
    PS X (.Assign [.Tuple [.Name x px, .Name y py] kt pt] (.Tuple [a, b] k2 pt2) pos) (tS G W (par2 i j P Q)) := by
  cases bb with
  | true => exact es_par2 cx ha hb hi hj hij hx hy h1 h2 hw hs
  | false => exact PS.imp (ps_parH (cx.hot rfl).1 cx.nd hi hj hij hx hy (pa_cons ha.pe (pa_cons hb.pe pa_nil h2) h1) hw hs) (tPar_of (X := X) (a := a) (b := b) hij fun σ H Qq h => h)
end
end Dn

/-! raise; try .. except C as n -/
namespace Dn
open PySem PySem.Spec PyProof.Rows L2
/-- the text's own error class of number n -/
structure ExcAt (K : PySem.W.Frag) (mg : Str → Option Value) (ex : Nat → Value) (x : Str) (n : Nat) : Prop where
  ex : ∃ C, mg x = some (.ref C) ∧ ex n = .ref C ∧ PySem.W.excIn K C [.type "ValueError", .type "Exception", .type "BaseException", .type "object"] "ValueError.__new__" = true ∧ PySem.W.keepIn K (.ref C) = true ∧
    PySem.W.subIn K (.ref C) (.type "BaseException") = some true ∧ PySem.W.typeIn K (.ref C) = some (.type "type") ∧ PySem.W.exmOne K (.ref C) (.ref C) = some true
theorem exc_at {K : PySem.W.Frag} {h : Heap} {mg : Str → Option Value} {ex : Nat → Value} {x : Str} {n : Nat} {C : Addr} (X : K.In h) (G : h.Ns mainGlobals mg) (hex : ex n = (mg x).getD .none) (a : PySem.W.nsIn K mainGlobals x = some (some (.ref C)))
    (q : PySem.W.excIn K C [.type "ValueError", .type "Exception", .type "BaseException", .type "object"] "ValueError.__new__" = true) (k : PySem.W.keepIn K (.ref C) = true) (b : PySem.W.subIn K (.ref C) (.type "BaseException") = some true)
    (t : PySem.W.typeIn K (.ref C) = some (.type "type")) (e : PySem.W.isClsIn K C = true) (sc : PySem.W.subIn K (.ref C) (.ref C) = some true) : ExcAt K mg ex x n := by
  have hm := PySem.W.mg_of X G a
  refine ⟨C, hm, by rw [hex, hm]; rfl, q, k, b, t, ?_⟩
  have e' : (PySem.W.clsIn K C).isSome = true := e
  simp [PySem.W.exmOne, PySem.W.kitCls, b, t, e', sc]
section
variable {bb : Bool} {X : Cx} {G : Gx} {W : WX} {k n : Nat} {pos pos' p p2 p3 p4 : Pos} {x y : Str} {g h : M Out} {body suite : List Stmt} {b₀ : Stmt}
def raiseM (n : Nat) : M Out := M.raise ⟨n, []⟩
theorem es_raise {m : Str} {j : Nat} {ex : Nat → Value} (c : Kx true X G W k) (D : ExcAt X.K X.mg ex x n) (hex : G.ex = ex := by rfl) (hg : Gl X x := by rfl) (hdb : (x == ("__debug__" : Str)) = false := by decide) :
    PS X (.Raise (some (.Call (.Name x p) [.Constant (.str m) j p2] [] p3)) none pos) (tS G W (raiseM n)) := by
  obtain ⟨C, h1, h2, h3, h4, h5, h6, _⟩ := D.ex
  refine PS.imp (L2N.ps_raise (c.calm rfl) c.tk (L2N.pmk_own PySem.F.excBase_ValueError h3 h1 h4 (raises_own h5 h6) hg hdb)) fun E σ H ⟨F, ρ, τ, R, q⟩ => ?_
  exact q F H σ _ _ (Same.refl _) R ⟨by rw [hex]; exact h2.symm, .inl ⟨rfl, rfl⟩⟩
/-- hit: of a class that comes, is it the clause's? -/
def tryM (g : M Out) (i : Nat) (hit : Nat → Option Bool) (h : M Out) : M Out := fun ρ => match g ρ with
  | none => none
  | some (.ok o ρ') => some (.ok o ρ')
  | some (.exc e ρ') => match hit e.c with
    | none => none
    | some false => some (.exc e ρ')
    | some true => match h (ρ'.set i .emp) with
      | some (.ok o ρ2) => some (.ok o (ρ2.set i .emp))
      | _ => none
theorem FinS.anyW {W' : WX} {F : Hp} {τ : Tmp} {E : Ends} {o : Out} {ρ' : Sto} (q : FinS G W F τ E (some (.ok o ρ'))) : FinS G W' F τ E (some (.ok o ρ')) := by
  cases o <;> exact q
theorem fin_suite {F : Hp} {τ : Tmp} {E : Ends} {i : Nat} {r : Option (Res Out)} (q : FinS G W F τ E (match r with
      | some (.ok o ρ2) => some (.ok o (ρ2.set i .emp))
      | _ => none)) : FinS G W0 F τ { nx := fun σ' H' => E.nx (σ'.set i none) H', rt := E.rt, bk := fun σ' H' => E.bk (σ'.set i none) H', ct := fun σ' H' => E.ct (σ'.set i none) H' } r := by
  match r, q with
  | some (.ok .nx ρ'), q => exact fun F' H' σ' s R => q F' H' _ s (R.clear i none)
  | some (.ok .bk ρ'), q => exact fun F' H' σ' s R => q F' H' _ s (R.clear i none)
  | some (.ok .ct ρ'), q => exact fun F' H' σ' s R => q F' H' _ s (R.clear i none)
  | some (.ok (.ret d) ρ'), q => exact fun F' H' σ' v s R rv => q F' H' _ v s (R.clear i none) rv
  | some (.ok (.retN c) ρ'), q => exact fun F' H' σ' v s R ⟨o, f1, f2, f3, f4, f5, f6⟩ => q F' H' _ v s (R.clear i none) ⟨o, f1, f2, f3, f4, fun j t z => by simp at z, f6⟩
theorem es_try {i m : Nat} {ex : Nat → Value} {hit : Nat → Option Bool} (c : Kx true X G W k) (D : ExcAt X.K X.mg ex x m)
    (hb : ∀ (pn : List (Addr × Obj)) (xe : Value → Shared → Prop) (W' : WX), Kx true (X.tr pn xe) G W' k → PassesOwn (model X.prog X.w) X.A X.env xe → PSs (X.tr pn xe) body (tS G W' g))
    (hsu : ∀ (a : Addr) (pn : List (Addr × Obj)), Kx false (X.suite a pn) G W0 k → PSs (X.suite a pn) (b₀ :: suite) (tS G W0 h))
    (hh : ∀ n b C, ex m = .ref C → hit n = some b → PySem.W.exmOne X.K (ex n) (.ref C) = some b)
    (hs : X.stack = X.env :: X.outer := by rfl) (hf : X.env.frame = some X.env.locals := by rfl) (hi : X.N[i]? = some y := by rfl) (hln : X.env.kindOf y = some .local := by rfl) (hex : G.ex = ex := by rfl) (hg : Gl X x := by rfl) (hdb : (x == ("__debug__" : Str)) = false := by decide) :
    PS X (.Try body [.ExceptHandler (some (.Name x p)) (some y) (b₀ :: suite) pos'] [] [] pos) (tS G W (tryM g i hit h)) := by
  obtain ⟨C, h1, h2, h3, h4, h5, h6, _⟩ := D.ex
  refine PS.imp (L2N.ps_try_as (tb := fun W' => tS G W' g) (ts := fun _ _ _ => tS G W0 h) hs hf c.nd hi hln ⟨hg, hdb, .inl h1⟩ c.tk (fun W' pn xe tk po => hb pn xe W' ⟨c.hK, tk, c.un, c.nd, c.hr, c.calm, fun z => (nomatch z)⟩ po) (fun a oe cls d pn z ⟨vs, hv⟩ => hsu a _ ?_)) fun E σ H ⟨F, ρ, τ, R, q⟩ => ⟨F, ρ, τ, R, ?_⟩
  · exact ⟨c.hK, takes0, c.un, c.nd, fun z => (nomatch z), fun z => (nomatch z), fun _ => ⟨⟨_, ⟨rfl, vs, hv, z.2.2 vs hv⟩, List.mem_cons_self⟩, (c.hr rfl).dp, (c.hr rfl).un⟩⟩
  · unfold tryM at q
    match u : g ρ with
    | none => rw [u] at q; exact q.elim
    | some (.ok o ρ') => rw [u] at q; exact FinS.anyW q
    | some (.exc e ρ') =>
      simp only [u] at q
      intro F' H' σ' cls dd s' R' xr
      have hc : cls = ex e.c := by rw [← hex]; exact xr.1
      match v : hit e.c with
      | none => rw [v] at q; exact q.elim
      | some false =>
        rw [v] at q
        exact ⟨false, by rw [hc]; exact hh _ _ _ h2 v, fun z => (nomatch z), fun _ => q F' H' σ' cls dd s' R' xr⟩
      | some true =>
        rw [v] at q
        exact ⟨true, by rw [hc]; exact hh _ _ _ h2 v, fun _ a na => ⟨F', _, τ, R'.clear i _, fin_suite (FinS.mono s' q)⟩, fun z => (nomatch z)⟩
end
/-- only what comes out well -/
def okD {α : Type} (den : Den α) : Den α := fun ds => match den ds with
  | some (.ok a) => some (.ok a)
  | _ => none
theorem okD_ok {α : Type} {den : Den α} {ds : List D} {a : α} (h : den ds = some (.ok a)) : okD den ds = some (.ok a) := by
  unfold okD
  rw [h]
/-- what cannot err errs by no class -/
theorem fn_okD {P : Program} {w : World} {K : PySem.W.Frag} {mg : Str → Option Value} {base : Heap} {ex ex' : Nat → Value} {n k : Nat} {den : Den D} {f : Addr} {fd : FuncData} {ps : List Str} (F : FnOk P w K mg base (L2N.CX P w) k f fd ps (spD K ex n den)) :
    FnOk P w K mg base (L2N.CX P w) k f fd ps (spD K ex' n (okD den)) := by
  have imp : ∀ vs H Q E, spD K ex' n (okD den) vs H Q E → spD K ex n den vs H Q E := fun vs H Q E ⟨F, ds, s, r, hn, q⟩ => ⟨F, ds, s, r, hn, by
    unfold okD at q
    match z : den ds with
    | none => rw [z] at q; exact q.elim
    | some (.error e) => rw [z] at q; exact q.elim
    | some (.ok a) => rw [z] at q; exact q⟩
  exact ⟨fun vs H Q E h => F.len vs H Q E (imp _ _ _ _ h), fun A outer s H args us vs Q E h1 h2 h3 h4 h5 => F.run A outer s H args us vs Q E h1 h2 h3 h4 (imp _ _ _ _ h5)⟩
/-- a clause takes its own class -/
def hitOne (m : Nat) : Nat → Option Bool := fun n => if n = m then some true else none
theorem hit_one {K : PySem.W.Frag} {mg : Str → Option Value} {ex : Nat → Value} {x : Str} {m : Nat} (D : ExcAt K mg ex x m) : ∀ n b C, ex m = .ref C → hitOne m n = some b → PySem.W.exmOne K (ex n) (.ref C) = some b := fun n b C h1 h2 => by
  unfold hitOne at h2
  split at h2
  · rename_i e
    cases h2
    obtain ⟨C', _, g2, _, _, _, _, g7⟩ := D.ex
    rw [e, h1]
    rw [h1] at g2
    cases g2
    exact g7
  · cases h2
end Dn

set_option maxHeartbeats 2000000
/-! sorted(d.values()), d a dict with tuples as keys and pairs of ints as values -/
namespace Dn
open PySem PySem.Spec PyProof.Rows L2
section
variable {P : Program} {w : World} {r d : Addr} {ob : Obj} {es : Array DictEntry} {ep : Nat}
theorem src_vals (hx : ob.ExactDict) (hd : ob.data = .dict es ep) :
    PySem.W.KdlSrc P w "dict_values" r d es.size (fun i v => ∃ en : DictEntry, es[i]? = some en ∧ v = en.val) (fun h => h.get? r = some (DSub.viewOb "dict_values" d) ∧ h.get? d = some ob) where
  type := fun _ m => ⟨_, m.1, rfl⟩
  there := fun _ m => ⟨Heap.lt_size m.1, Heap.lt_size m.2⟩
  keep := fun _ _ m k => ⟨k r (.inl rfl) _ m.1, k d (.inr rfl) _ m.2⟩
  notList := by decide
  notTuple := by decide
  hint := fun _ _ _ _ m q => PySem.W.kdl_hint_values ⟨_, m.1, rfl⟩ q
  iter := fun _ _ hh m => ⟨_, _, (fun _ _ q => DSub.iter_vals m.1 m.2 hd q), DSub.walksVal hh (Nat.ne_of_lt (Heap.lt_size m.2)) hd (fun i e he => ⟨e, he, rfl⟩), ⟨Heap.get?_push_size _ rfl, Heap.get?_push_of_some _ m.2⟩⟩
end
section
variable {X : Cx}
def rValuesT : V → List V → Hp → VK → Prop := fun x xs H Q => ∃ (a : Addr) (kvs : List (List L2.Key × V)), x = .ref a ∧ xs = [] ∧ H a = some (.dT kvs) ∧ ∀ p, H p = none → Q (.ref p) (upd H p (viewO "dict_values" p a))
theorem mt_valuesT : MtR X "dict.values" rValuesT := by
  rintro pins s σ H x xs v us Q I rx rxs ⟨a, kvs, rfl, rfl, ha, q⟩
  cases rx
  cases rxs
  obtain ⟨_, hd, xs', rel, o, es, ep, ho, hx, hdat, _⟩ := dt_of I.hok ha
  refine call_meetsIn PySem.F.slot_dict_values ⟨o, ho, hx.1⟩ PySem.F.entry_dict_values (PySem.F.args_dict_values_1 _) (PySem.meets_dict_values_raw a hd) ⟨⟨es, ep, o, ho, hx, hdat⟩, ?_⟩
  exact ⟨.ref s.heap.objs.size, upd H s.heap.objs.size (viewO "dict_values" s.heap.objs.size a), I.laid (t' := s.toks) (fun b u e => Heap.get?_push_of_some _ e) (Nat.le_refl _) (viewO_ok (Heap.get?_push_size _ rfl)), rfl, q _ (I.hok.fresh (Nat.le_refl _))⟩
def rSortedV : List V → Hp → VK → Prop := fun vs H Q => ∃ (p a : Addr) (kvs : List (List L2.Key × V)) (k : V → Int × Int), vs = [.ref p] ∧ H p = some (viewO "dict_values" p a) ∧ H a = some (.dT kvs) ∧ (∀ x ∈ kvs.map (·.2), ∃ t, x = V.ref t ∧ H t = some (.tup [.int (k x).1, .int (k x).2])) ∧
  ∀ ys q, SrtO.Srtd (ltP k) ys → SrtO.Stb (ltP k) ys (kvs.map (·.2)) → H q = none → Q (.ref q) (upd H q (.lst ys))
theorem cr_sortedV (hc : X.calm = true) : CallR X (.builtin "sorted") rSortedV := by
  rintro pins s σ H xs us Q I r ⟨p, a, kvs, k, rfl, hp, ha, hv, q⟩
  obtain rfl := Vals.ref1 r
  have hvw : s.heap.get? p = some (DSub.viewOb "dict_values" a) := (show ObjOk X.prog X.w H s.heap p (viewO "dict_values" p a) from I.hok p _ hp).1
  obtain ⟨z, hd, xs', rel, o, es, ep, ho, hx, hdat, hes, his, hn⟩ := dt_of I.hok ha
  have l1 : kvs.length = xs'.length := Paired.length rel
  have l2 : es.size = xs'.length := size_of_entries hes
  refine Calls.call_function_entry PyProof.Rows.kind_sorted PyProof.Rows.plain_sorted PyProof.Rows.entry_sorted (PyProof.Rows.args_sorted1 _) ?_
  unfold Builtin.«sorted»
  refine wpAny_bind (m := checkCount "sorted" 1 1 _) <| wpAny_pure <| wpAny_bind <| PySem.W.kdu_collect (A := X.A.in1) (src_vals hx hdat) (I.ok.hd hc) ⟨hvw, ho⟩ (by omega) fun g tk acc hk hacc => ?_
  have e0 : acc.toList.length = es.size := by rw [Array.length_toList]; exact hacc.1
  have rv : Vals (kvs.map (·.2)) acc.toList := by
    refine vals_of_at (by rw [List.length_map]; omega) fun j x w h1 h2 => ?_
    obtain ⟨en, e1, e2⟩ := hacc.2 j w (by rw [← Array.getElem?_toList]; exact h2)
    rw [entry_at hes j] at e1
    cases h3 : xs'[j]? with
    | none => rw [h3] at e1; exact nomatch (show (none : Option DictEntry) = some en from e1)
    | some y =>
      rw [h3] at e1
      have e4 : entryOfKey (tupleKind (mixKind X.prog X.w)) y = en := Option.some.inj e1
      obtain ⟨y0, g1, _, _, g4⟩ := L2.DX.pget rel h3
      rw [List.getElem?_map, g1] at h1
      have e5 : y0.2 = x := Option.some.inj h1
      rw [e2, ← e4, ← e5]
      exact g4
  have hl : acc.toList.length ≤ sizeLine := by rw [← rv.length, List.length_map]; exact z
  have J : Inv X pins σ H { s with heap := g, toks := tk } := I.kept hk
  obtain ⟨e1, e2⟩ := refs_back rv fun x m => let ⟨t, e, _⟩ := hv x m; ⟨t, e⟩
  refine wpAny_bind (wpAny_newList ?_ hl)
  have hoL : (g.push (seqObj "list" acc.toList.toArray 0)).get? g.objs.size = some (seqObj "list" acc.toList.toArray 0) := Heap.get?_push_size _ rfl
  show wpAny _ _ _ _ _ { s with heap := g.push (seqObj "list" acc.toList.toArray 0), toks := tk }
  have prs : ∀ u ∈ acc.toList, Srt.IsPair (g.push (seqObj "list" acc.toList.toArray 0)) u (k (backV u)).1 (k (backV u)).2 := fun u hu => by
    obtain ⟨t, rfl⟩ := e2 u hu
    obtain ⟨t', e, ht⟩ := hv _ (by rw [e1]; exact List.mem_map.mpr ⟨_, hu, rfl⟩)
    cases e
    obtain ⟨_, its2, r2, o, h1, h2, n, h3⟩ := J.hok _ _ ht
    obtain ⟨u1, u2, rfl, ⟨t1, rfl⟩, ⟨t2, rfl⟩⟩ := vals2 r2
    exact ⟨t, o, t1, t2, n, rfl, Heap.get?_push_of_some _ h1, h2, h3⟩
  refine wpAny_bind (wpAny_holding (wpAny_call_entry PyProof.Rows.slot_list_sort ⟨_, hoL, rfl⟩ PyProof.Rows.entry_list_sort
    (SrtO.list_sort_ord (s := { s with heap := g.push (seqObj "list" acc.toList.toArray 0), toks := tk }) (SrtO.swo_lex fun u => k (backV u)) hoL hl (fun h2 => SrtO.pairs_sortableO (by omega) prs fun o e c => ?_) fun out h1 h2 => ⟨_, rfl, ?_⟩) (PyProof.Rows.args_list_sort _)))
  · have e' : some o = some (seqObj "list" acc.toList.toArray 0) := e.symm.trans hoL
    cases e'
    exact absurd (Value.type.inj c) (by decide)
  · obtain ⟨n, hn⟩ := PyProof.Rows.sortedHeap_at (vs := acc.toList) (out := out.toArray) hoL
    have h3 : ∀ u ∈ out, ∃ a, u = Value.ref a := fun u hu => e2 u (h2.perm.mem_iff.mp hu)
    have hb : SrtO.Stb (ltP k) (out.map backV) (kvs.map (·.2)) := by
      rw [e1]
      exact SrtO.Stb.map (ltP_swo k) backV h2
    refine wpAny_pure ⟨_, rfl, .ref g.objs.size, upd H g.objs.size (.lst (out.map backV)), J.laid (t' := tk) (fun b u e => ?_) (Nat.le_refl _) ⟨by rw [hb.len, List.length_map]; exact z, out, n, vals_back h3, hn⟩, rfl, q _ _ (SrtO.srtd_map h1) hb (J.hok.fresh (Nat.le_refl _))⟩
    have lt := Heap.lt_size e
    rw [PyProof.Rows.sortedHeap_old (Nat.ne_of_lt lt) (by rw [size_push']; exact Nat.lt_succ_of_lt lt)]
    exact Heap.get?_push_of_some _ e
end
end Dn

/-! sorted(name.values()) -/
namespace Dn
open PySem PySem.Spec PyProof.Rows L2
theorem sort_prs {K : PySem.W.Frag} {F : Hp} {xs : List V} {zs : List (Int × Int)} (r : RpA K F xs (zs.map pD)) : ∃ kk : V → Int × Int, (∀ x ∈ xs, ∃ t, x = V.ref t ∧ F t = some (.tup [.int (kk x).1, .int (kk x).2])) ∧
    ∀ ys, SrtO.Srtd (ltP kk) ys → SrtO.Stb (ltP kk) ys xs → RpA K F ys ((isort leP zs).map pD) := by
  let kk : V → Int × Int := fun v => match v with
    | .ref t => match F t with
      | some (.tup [.int i, .int j]) => (i, j)
      | _ => (0, 0)
    | _ => (0, 0)
  have hk : ∀ {xs : List V} {zs : List (Int × Int)}, Paired (fun v z => ∃ t, v = V.ref t ∧ F t = some (.tup [.int z.1, .int z.2])) xs zs → xs.map kk = zs ∧ ∀ x ∈ xs, ∃ t, x = V.ref t ∧ F t = some (.tup [.int (kk x).1, .int (kk x).2]) := by
    intro xs zs pr
    induction pr with
    | nil => exact ⟨rfl, fun x hx => by cases hx⟩
    | @cons v z vs zs h t ih =>
      obtain ⟨t0, rfl, ht⟩ := h
      have ek : kk (.ref t0) = z := by
        show (match F t0 with
          | some (.tup [.int i, .int j]) => (i, j)
          | _ => (0, 0)) = z
        rw [ht]
      refine ⟨by rw [List.map_cons, ek, ih.1], fun x hx => ?_⟩
      rcases List.mem_cons.mp hx with rfl | hx
      · exact ⟨t0, rfl, by rw [ek]; exact ht⟩
      · exact ih.2 x hx
  obtain ⟨k1, k2⟩ := hk r.pairs
  refine ⟨kk, k2, fun ys hs hb => ?_⟩
  have hperm : ys.Perm xs := hb.perm
  have e5 : ys.map kk = isort leP zs := by
    refine sorted_uniq (le := fun a b => leP a b = true) leP_anti ((hperm.map kk).trans (by rw [k1]; exact (isort_perm zs).symm)) ?_ (isort_sorted leP_tot leP_tr zs)
    refine List.pairwise_map.mpr (List.Pairwise.imp (fun {x y} hxy => ?_) hs)
    have hxy' := SrtO.lexB_no.mp hxy
    rw [leP_iff]
    omega
  have rr : ∀ {ys : List V}, (∀ y ∈ ys, y ∈ xs) → RpA K F ys ((ys.map kk).map pD) := by
    intro ys
    induction ys with
    | nil => intro _; exact .nil
    | cons y r ih =>
      intro hy
      obtain ⟨t, e3, e4⟩ := k2 y (hy y List.mem_cons_self)
      refine .cons ?_ (ih fun z hz => hy z (List.mem_cons_of_mem _ hz))
      rw [e3] at e4 ⊢
      exact .tup e4 (.cons (.int _) (.cons (.int _) .nil))
  rw [← e5]
  exact rr fun y hy => hperm.mem_iff.mp hy
section
variable {bb : Bool} {X : Cx} {G : Gx} {W : WX} {k : Nat} {pos p p2 apos mpos : Pos} {y : Str}
def sortVals (es : List (List Key × D)) : Option Co := (pairsOf (es.map (·.2))).map fun zs => .lst ((isort leP zs).map pD)
/-- sorted(x.values()), x an owned dict -/
def valsM (i : Nat) : M Co := fun ρ => match ρ[i]? with
  | some (.own _ (.dT es)) => (sortVals es).map fun c => .ok c ρ
  | _ => none
theorem en_sortedVals {i : Nat} (c : Kx true X G W k) (hm : X.mg "sorted" = none) (hN : X.N[i]? = some y := by rfl) (hv : Vis X.env.scope y := by first | exact Or.inl rfl | exact Or.inr (Or.inl rfl) | exact Or.inr (Or.inr rfl)) (hd : (y == ("__debug__" : Str)) = false := by decide) (hcd : (y == ("__classdict__" : Str)) = false := by decide)
    (hbase : attributeBase (.Name y p2) "values" X.env (eval (.Name y p2) X.env) = eval (.Name y p2) X.env := by rfl) (hline : (apos.endLine == mpos.line) = true := by rfl) (hg : Gl X "sorted" := by rfl)
    (he : starEach [.Call (.Attribute (.Name y p2) "values" apos) [] [] mpos] X.env = (false, eval (.Call (.Attribute (.Name y p2) "values" apos) [] [] mpos) X.env) :: starEach [] X.env := by rfl) :
    PE X (.Call (.Name "sorted" p) [.Call (.Attribute (.Name y p2) "values" apos) [] [] mpos] [] pos) (tN G W (valsM i)) :=
  PE.imp (pe_callB (cr_sortedV (c.calm rfl)) hg hm PyProof.Rows.boot_sorted (pa_cons (pe_bm0 PySem.F.plainAttrs_dict PySem.F.slot_dict_values PySem.F.type_dict_values mt_valuesT (pe_var hN hv hd hcd) hbase hline) pa_nil he) (by decide) (by decide) he rfl) fun σ H Q ⟨F, ρ, τ, R, q⟩ => by
    unfold valsM at q
    split at q
    · rename_i b es e
      unfold sortVals at q
      cases z : pairsOf (es.map (·.2)) with
      | none => rw [z] at q; exact q.elim
      | some zs =>
        rw [z] at q
        obtain ⟨a, o, g1, g2, ⟨kvs, g3, g4, g5⟩, g6, g7⟩ := R.own e
        subst g3
        rw [pairsOf_eq z] at g5
        obtain ⟨kk, k1, k2⟩ := sort_prs g5
        refine ⟨_, g1, .inr (.inr (.inl ⟨rfl, .inr ⟨_, g2⟩⟩)), a, kvs, rfl, rfl, g2, fun v hv => ?_⟩
        have R1 := R.ext (Ext.loose (viewO "dict_values" v a) R.sub hv)
        have ne : a ≠ v := fun w => by rw [w, hv] at g2; cases g2
        refine ⟨v, a, kvs, kk, rfl, upd_same, by rw [upd_ne ne]; exact g2, fun x hx => ?_, fun ys q' hs hb hq => ?_⟩
        · obtain ⟨t, e1, e2⟩ := k1 x hx
          exact ⟨t, e1, R1.sub _ _ e2⟩
        · obtain ⟨R2, fr⟩ := R1.newly (c := .lst ((isort leP zs).map pD)) hq ⟨_, rfl, k2 ys hs hb⟩
          exact q F _ (Same.refl _) R2 q' fr
    · exact q.elim
end
end Dn

/-! Two names at once, one of them known to a block -/
namespace Dn
open PySem PySem.Spec PyProof.Rows L2
section
variable {bb : Bool} {X : Cx} {G : Gx} {W : WX} {k : Nat} {pos p p2 p3 p4 : Pos} {a b c e : Expr}
theorem es_parC {i j : Nat} {x y : Str} {P Q : Pt} {px py pt pt2 : Pos} {kt k2 : Nat} (cx : Kx true X G W k) (ha : PtOk X G W a P) (hb : PtOk X G W b Q) (hi : X.N[i]? = some x := by rfl) (hj : X.N[j]? = some y := by rfl) (hij : i ≠ j := by decide)
    (hx : Loc X.env.scope x := by first | exact Or.inl rfl | exact Or.inr rfl) (hy : Loc X.env.scope y := by first | exact Or.inl rfl | exact Or.inr rfl) (h1 : starEach [a, b] X.env = (false, eval a X.env) :: starEach [b] X.env := by rfl) (h2 : starEach [b] X.env = (false, eval b X.env) :: starEach [] X.env := by rfl)
    (hs : swapsWithSole [.Tuple [.Name x px, .Name y py] kt pt] (.Tuple [a, b] k2 pt2) pos.line X.env = pure false := by rfl) (hw : swappedStores [.Tuple [.Name x px, .Name y py] kt pt] (.Tuple [a, b] k2 pt2) X.env = pure none := by rfl)
    (hf : X.fn x = true ∨ X.env.scope.names.lookup x = some .local := by first | exact .inl rfl | exact .inr rfl | assumption) (hf2 : X.fn y = true ∨ X.env.scope.names.lookup y = some .local := by first | exact .inl rfl | exact .inr rfl | assumption)
    (g1 : (assignEach [.Tuple [.Name x px, .Name y py] kt pt] X.env).map (·.2) = [assign (.Tuple [.Name x px, .Name y py] kt pt) X.env] := by rfl)
    (g2 : (assignEach [.Name x px, .Name y py] X.env).map (·.2) = assign (.Name x px) X.env :: (assignEach [.Name y py] X.env).map (·.2) := by rfl) (g3 : (assignEach [.Name y py] X.env).map (·.2) = assign (.Name y py) X.env :: (assignEach [] X.env).map (·.2) := by rfl)
    (g4 : (assignEach [.Name x px, .Name y py] X.env).length = 2 := by rfl) (g5 : (assignEach [.Name x px, .Name y py] X.env).findIdx? (·.1) = none := by rfl) :
    PS X (.Assign [.Tuple [.Name x px, .Name y py] kt pt] (.Tuple [a, b] k2 pt2) pos) (tS G W (par2 i j P Q)) :=
  PS.imp (ps_asg (pe_tup (pa_cons ha.pe (pa_cons hb.pe pa_nil h2) h1)) (pg_tup (cx.calm rfl) (pgs_cons (pg_name cx.nd hi hx hf) (pgs_cons (pg_name cx.nd hj hy hf2) pgs_nil g3) g2) g4 g5) hs hw g1) fun E σ H ⟨F, ρ, τ, R, q⟩ => by
    refine pt_run R (FinS.bind q) fun xx ρ1 F1 H1 v τ1 s1 R1 q1 R1' hv => ?_
    have q1' : FinS G W F1 τ E (M.bind Q.run (fun y => fun ρ => some (.ok .nx ((ρ.set i xx.slot).set j y.slot))) ρ1) := q1
    -- the second is run with the first one held: FinS does not see the temporaries but at its end
    have q2 : Fin G W F1 σ τ1 (fun yy ρ2 F2 _ => FinS G W F2 τ E (some (.ok .nx ((ρ2.set i xx.slot).set j yy.slot)))) (Q.run ρ1) := by
      unfold M.bind at q1'
      match z : Q.run ρ1 with
      | none => rw [z] at q1'; exact q1'
      | some (.exc e ρ') =>
        rw [z] at q1'
        intro F' H' cls dd s R2 xr
        refine q1' F' H' σ cls dd s ?_ xr
        cases xx with
        | v d => obtain ⟨rfl, _⟩ := hv; exact R2
        | c c => obtain ⟨p, o, _, rfl, _⟩ := hv; exact R2.pop.1
      | some (.ok yy ρ2) =>
        rw [z] at q1'
        exact fun F2 H2 s R2 => FinS.mono s q1'
    refine pt_run R1' q2 fun yy ρ2 F2 H2 w τ2 s2 R2 q3 R2' hw2 => ?_
    refine ⟨by show 2 ≤ sizeLine; decide, fun p hp => ⟨p, [v, w], rfl, .of upd_same, rfl, v, [w], rfl, w, [], rfl, rfl, ?_⟩⟩
    exact q3 F2 _ _ (Same.refl _) ((hw2.under i (hv.mono s2) R2' j hij).ext (Ext.loose _ R2.sub hp))
end
end Dn

/-! name.index(x) of a list -/
namespace Dn
open PySem PySem.Spec PyProof.Rows L2
/-- the first place of an equal one -/
def indexD (ds : List D) (b : D) : Option Nat := if lay 9 b && ds.all (lay 9) then (match ds.findIdx? (fun z => eqv 9 z b) with | some j => some j | none => none) else none
section
variable {bb : Bool} {X : Cx} {G : Gx} {W : WX} {k : Nat} {pos p p2 apos : Pos} {b : Expr} {x : Str} {fb : M D}
theorem Rep.slot_lst {F H : Hp} {ρ : Sto} {σ : L2.St} {τ : Tmp} {i : Nat} {s : Slot} {ds : List D} (R : Rep G F H ρ σ τ) (hs : ρ[i]? = some s) (hd : s.d? = some (.lst ds)) : ∃ p xs, σ[i]? = some (some (.ref p)) ∧ H p = some (.lst xs) ∧ Rp G.K H (.ref p) (.lst ds) := by
  obtain ⟨v, h1, r⟩ := R.pk hs hd
  cases r with
  | lst h q => exact ⟨_, _, h1, h, .lst h q⟩
def isLst (i : Nat) : M Unit := fun ρ => match ρ[i]? with
  | some s => match s.d? with
    | some (.lst _) => some (.ok () ρ)
    | _ => none
  | none => none
def indexHere (i : Nat) (b : D) : M D := fun ρ => match ρ[i]? with
  | some s => match s.d? with
    | some (.lst ds) => (indexD ds b).map fun j => .ok (.int (j : Nat)) ρ
    | _ => none
  | none => none
def indexM (i : Nat) (fb : M D) : M D := M.bind (isLst i) fun _ => M.bind fb fun b => indexHere i b
theorem ei_index {i : Nat} (cx : Kx bb X G W k) (hb : PE X b (tI G W fb)) (hN : X.N[i]? = some x := by rfl) (hv : Vis X.env.scope x := by first | exact Or.inl rfl | exact Or.inr (Or.inl rfl) | exact Or.inr (Or.inr rfl)) (hd : (x == ("__debug__" : Str)) = false := by decide)
    (hcd : (x == ("__classdict__" : Str)) = false := by decide) (hbase : attributeBase (.Name x p) "index" X.env (eval (.Name x p) X.env) = eval (.Name x p) X.env := by rfl)
    (hfew : ((backTo pos (starEach [b] X.env)).all (fun x => !x.1) && (backToKw pos (keywordEach [] X.env)).all (fun x => x.1.isSome) && decide (([b] : List Expr).length + ([] : List Keyword).length + (if ([] : List Keyword).isEmpty then 0 else 1) < 30)) = true := by rfl)
    (hline : (apos.endLine == pos.line) = true := by rfl) (hs : starEach [b] X.env = (false, eval b X.env) :: starEach [] X.env := by rfl) (hplain : (backTo pos (starEach [] X.env)).any (·.1) = false := by rfl) :
    PE X (.Call (.Attribute (.Name x p) "index" apos) [b] [] pos) (tI G W (indexM i fb)) :=
  PE.imp (pe_bm PySem.F.plainAttrs_list PySem.F.slot_list_index PySem.F.type_list_index (mt_indexD (by have := cx.un; omega)) (pe_var hN hv hd hcd) (pa_cons hb pa_nil hs) hbase hfew hline hs hplain) fun σ H Q ⟨F, ρ, τ, R, q⟩ => by
    have q1 := Fin.bind q
    unfold isLst at q1
    split at q1
    · rename_i s hs
      split at q1
      · rename_i ds hd
        obtain ⟨p, xs, h1, h2, h3⟩ := R.slot_lst hs hd
        refine ⟨.ref p, h1, .inl ⟨rfl, xs, .of h2⟩, F, ρ, τ, R, (Fin.bind (q1 F H (Same.refl F) R)).imp fun b ρ2 F2 H2 s2 R2 q2 w rw => ?_⟩
        unfold indexHere at q2
        split at q2
        · rename_i s' hs'
          split at q2
          · rename_i ds' hd'
            obtain ⟨p', xs', g1, g2, g3⟩ := R2.slot_lst hs' hd'
            have ep : p' = p := by
              have := Option.some.inj (Option.some.inj (g1.symm.trans h1))
              injection this
            subst ep
            cases z : indexD ds' b with
            | none => rw [z] at q2; exact q2.elim
            | some j =>
              rw [z] at q2
              unfold indexD at z
              split at z
              · rename_i hl
                rw [Bool.and_eq_true] at hl
                have hL : lay 10 (.lst ds') = true := hl.2
                cases zi : ds'.findIdx? (fun z => eqv 9 z b) with
                | none => rw [zi] at z; cases z
                | some j' =>
                  rw [zi] at z
                  cases z
                  obtain ⟨hj, he, hno⟩ := List.findIdx?_eq_some_iff_getElem.mp zi
                  have all : ∀ (m : Nat) (hm : m < ds'.length), lay 9 ds'[m] = true := fun m hm => List.all_eq_true.mp hl.2 _ (List.getElem_mem hm)
                  refine ⟨p', w, py 9 b, ds'.map (py 9), j, py 9 ds'[j], rfl, rfl, (by rw [← cx.hK]; exact g3.dp (n := 10) (Same.refl H2) hL), (by rw [← cx.hK]; exact (rw.mono R2.sub).dp (Same.refl H2) hl.1), shaped_py (n := 10) (by decide) hL, shaped_py (by decide) hl.1, ?_, ?_, fun m z' hm hz => ?_, q2 F2 H2 (Same.refl F2) R2 _ (.int _)⟩
                  · rw [List.getElem?_map, List.getElem?_eq_getElem hj]
                    rfl
                  · rw [← eqv_py 9 _ _ (all j hj) hl.1]
                    exact he
                  · have hm2 : m < ds'.length := by omega
                    rw [List.getElem?_map, List.getElem?_eq_getElem hm2] at hz
                    have hz' : py 9 ds'[m] = z' := Option.some.inj hz
                    rw [← hz', ← eqv_py 9 _ _ (all m hm2) hl.1]
                    exact Bool.eq_false_iff.mpr (hno m hm)
              · cases z
          · exact q2.elim
        · exact q2.elim
      · exact q1.elim
    · exact q1.elim
end
end Dn

set_option maxHeartbeats 2000000
/-! sorted(d.items()), d a dict with ints as keys and as values -/
namespace Dn
open PySem PySem.Spec PyProof.Rows L2
def intE (e : Int × Int) : L2.Key × V := (Sum.inl e.1, V.int e.2)
section
variable {X : Cx}
def rItemsK : V → List V → Hp → VK → Prop := fun x xs H Q => ∃ (a : Addr) (kvs : List (L2.Key × V)), x = .ref a ∧ xs = [] ∧ H a = some (.dK kvs) ∧ ∀ p, H p = none → Q (.ref p) (upd H p (DX.itemsO p a))
theorem mt_itemsK : MtR X "dict.items" rItemsK := by
  rintro pins s σ H x xs v us Q I rx rxs ⟨a, kvs, rfl, rfl, ha, q⟩
  cases rx
  cases rxs
  obtain ⟨_, hd, vs, rel, o, es, ep, ho, hx, hdat, _⟩ := dk_of I.hok ha
  refine DT.callItems (es := es) (ep := ep) hd ⟨o, ho, hx, hdat⟩ ?_
  exact ⟨.ref s.heap.objs.size, upd H s.heap.objs.size (DX.itemsO s.heap.objs.size a), I.laid (t' := s.toks) (fun b u e => Heap.get?_push_of_some _ e) (Nat.le_refl _) (DX.itemsO_ok (Heap.get?_push_size _ rfl)), rfl, q _ (I.hok.fresh (Nat.le_refl _))⟩
def rSortItK : List V → Hp → VK → Prop := fun vs H Q => ∃ (p a : Addr) (ks : List (Int × Int)), vs = [.ref p] ∧ H p = some (DX.itemsO p a) ∧ H a = some (.dK (ks.map intE)) ∧
  ∀ (H' : Hp) (l : Addr) (ps : List (Addr × Int × Int)), (∀ b o, H b = some o → H' b = some o) → (ps.map (·.2)).Perm ks → (ps.map (·.2)).Pairwise (fun x y => SrtO.lexB y x = false) → H l = none → H' l = some (.lst (ps.map fun z => V.ref z.1)) →
    (∀ z ∈ ps, H z.1 = none ∧ z.1 ≠ l ∧ H' z.1 = some (.tup [.int z.2.1, .int z.2.2])) → Q (.ref l) H'
open Classical in
theorem cr_sortedItK (hc : X.calm = true) : CallR X (.builtin "sorted") rSortItK := by
  rintro pins s σ H xs us Q I r ⟨p, a, ks, rfl, hp, ha, q⟩
  obtain rfl := Vals.ref1 r
  have view : s.heap.IsItemsView p a := (show ObjOk X.prog X.w H s.heap p (DX.itemsO p a) from I.hok p _ hp).1
  obtain ⟨z, hd, vs, rel, o, es, ep, ho, hx, hdat, _, hpr, _⟩ := dk_of I.hok ha
  have l1 : ks.length = vs.length := by
    have := KV.length rel
    rwa [List.length_map] at this
  have l2 : es.size = vs.length := by rw [← hpr.length]; simp
  have z' : ks.length ≤ sizeLine := by rwa [List.length_map] at z
  have hh : X.A.handled = none := I.ok.hd hc
  refine DT.sortedI (es := es) (ep := ep) hh view ⟨o, ho, hx, hdat⟩ (by omega) fun g tk as hk hlt hl hG => ?_
  have lak : as.length = ks.length := by omega
  have nd : as.Nodup := List.Pairwise.imp (fun h => Nat.ne_of_lt h) hG.rise
  -- what was made of each entry
  have pr : ∀ (j : Nat) (b : Addr), as[j]? = some b → ∃ (e : Int × Int) (t1 t2 : Tok), ks[j]? = some e ∧ g.get? b = some { cls := .type "tuple", data := .seq #[Value.int e.1 t1, Value.int e.2 t2] } := by
    intro j b hj
    obtain ⟨en, he, hg⟩ := hG.pairs j b hj
    have hjl : j < ks.length := by
      have := (List.getElem?_eq_some_iff.mp hj).1
      omega
    have hjv : j < vs.length := by omega
    have hks : ks[j]? = some ks[j] := List.getElem?_eq_getElem hjl
    obtain ⟨kv, hkv, h1, h2⟩ : ∃ kv : L2.Key × Value, vs[j]? = some kv ∧ (mixKind X.prog X.w).is kv.1 en.key = true ∧ en.val = kv.2 := by
      have hv := List.getElem?_eq_getElem hjv
      have := hpr.get? (e := en) (by rw [Array.getElem?_toList]; exact he) (show vs[j]? = some (vs[j].1, vs[j].2) from hv)
      exact ⟨_, hv, this.1, this.2⟩
    obtain ⟨x, g1, g2⟩ := KV.at' rel (show vs[j]? = some (kv.1, kv.2) from hkv)
    rw [List.getElem?_map, hks] at g1
    have g3 : intE ks[j] = (kv.1, x) := Option.some.inj g1
    have ek : Sum.inl ks[j].1 = kv.1 := congrArg Prod.fst g3
    have ex : V.int ks[j].2 = x := congrArg Prod.snd g3
    rw [← ek] at h1
    obtain ⟨t1, e1⟩ := Value.isInt_shape (show Value.isInt ks[j].1 en.key = true from h1)
    rw [← ex] at g2
    obtain ⟨t2, e2⟩ := g2
    refine ⟨ks[j], t1, t2, hks, ?_⟩
    rw [hg, e1, h2, e2]
  let P : Value → Int × Int → Prop := fun v e => ∃ (j : Nat) (b : Addr), v = .ref b ∧ as[j]? = some b ∧ ks[j]? = some e
  let kk : Value → Int × Int := fun v => if h : ∃ e, P v e then h.choose else (0, 0)
  have kkP : ∀ {v e}, P v e → kk v = e := fun {v e} h => by
    have hx : ∃ e, P v e := ⟨e, h⟩
    have e0 : kk v = hx.choose := dif_pos hx
    obtain ⟨j, b, r1, r2, r3⟩ := h
    obtain ⟨j', b', s1, s2, s3⟩ := hx.choose_spec
    rw [r1] at s1
    injection s1 with s1
    rw [← s1] at s2
    have ej : j = j' := (List.getElem?_inj (List.getElem?_eq_some_iff.mp r2).1 nd).mp (r2.trans s2.symm)
    rw [e0]
    rw [← ej] at s3
    exact Option.some.inj (s3.symm.trans r3)
  have at_ : ∀ v ∈ as.map Value.ref, ∃ (j : Nat) (b : Addr) (e : Int × Int), v = .ref b ∧ as[j]? = some b ∧ ks[j]? = some e ∧ kk v = e := fun v hv => by
    obtain ⟨b, hb, rfl⟩ := List.mem_map.mp hv
    obtain ⟨j, hj⟩ := List.mem_iff_getElem?.mp hb
    obtain ⟨e, _, _, he, _⟩ := pr j b hj
    exact ⟨j, b, e, rfl, hj, he, kkP ⟨j, b, rfl, hj, he⟩⟩
  have hob : (g.push { cls := .type "list", data := .seq (as.map Value.ref).toArray }).get? g.objs.size = some (seqObj "list" (as.map Value.ref).toArray 0) := Heap.get?_push_size _ rfl
  have ne0 : ∀ b u, g.get? b = some u → b ≠ g.objs.size := fun b u e => Nat.ne_of_lt (Heap.lt_size e)
  generalize hh2 : g.push { cls := .type "list", data := .seq (as.map Value.ref).toArray } = h2 at hob ⊢
  have ka : ∀ b u, g.get? b = some u → h2.get? b = some u := fun b u e => by rw [← hh2]; exact Heap.get?_push_of_some _ e
  have hz : (as.map Value.ref).length ≤ sizeLine := by rw [List.length_map]; omega
  have prs : ∀ v ∈ as.map Value.ref, Srt.IsPair h2 v (kk v).1 (kk v).2 := fun v hv => by
    obtain ⟨j, b, e, rfl, hj, he, ek⟩ := at_ v hv
    obtain ⟨e', t1, t2, he', hg⟩ := pr j b hj
    have ee : e' = e := Option.some.inj (he'.symm.trans he)
    rw [ek, ← ee]
    exact ⟨b, _, t1, t2, 0, rfl, ka _ _ hg, rfl, rfl⟩
  refine wpAny_call_entry PyProof.Rows.slot_list_sort ⟨_, hob, rfl⟩ PyProof.Rows.entry_list_sort
    (SrtO.list_sort_ord (s := { s with heap := h2, toks := tk }) (SrtO.swo_lex kk) hob hz (fun h2' => SrtO.pairs_sortableO (by omega) prs fun o e c => ?_) fun out o1 o2 => ⟨.none, rfl, ?_⟩) (PyProof.Rows.args_list_sort _)
  · have e' : some o = some (seqObj "list" (as.map Value.ref).toArray 0) := e.symm.trans hob
    cases e'
    exact absurd (Value.type.inj c) (by decide)
  · let ad : Value → Addr := fun v => match v with | .ref b => b | _ => 0
    let ps : List (Addr × Int × Int) := out.map fun v => (ad v, kk v)
    have mem : ∀ v ∈ out, ∃ (j : Nat) (b : Addr) (e : Int × Int), v = .ref b ∧ as[j]? = some b ∧ ks[j]? = some e ∧ kk v = e := fun v hv => at_ v (o2.perm.mem_iff.mp hv)
    have hout : out = ps.map fun z => Value.ref z.1 := by
      rw [List.map_map]
      conv => lhs; rw [← List.map_id out]
      refine List.map_congr_left fun v hv => ?_
      obtain ⟨j, b, e, rfl, _⟩ := mem v hv
      rfl
    have kks : (as.map Value.ref).map kk = ks := by
      apply List.ext_getElem?
      intro j
      rw [List.getElem?_map, List.getElem?_map]
      cases hj : as[j]? with
      | none =>
        have := List.getElem?_eq_none_iff.mp hj
        rw [List.getElem?_eq_none (by omega)]
        rfl
      | some b =>
        obtain ⟨e, _, _, he, _⟩ := pr j b hj
        show some (kk (.ref b)) = _
        rw [he, kkP ⟨j, b, rfl, hj, he⟩]
    have hps2 : ps.map (·.2) = out.map kk := by rw [List.map_map]; rfl
    have hperm : (ps.map (·.2)).Perm ks := by
      rw [hps2, ← kks]
      exact o2.perm.map kk
    have hsort : (ps.map (·.2)).Pairwise (fun x y => SrtO.lexB y x = false) := by
      rw [hps2, List.pairwise_map]
      exact List.Pairwise.imp (fun h => h) o1
    have kF : ∀ b u, b ≠ g.objs.size → h2.get? b = some u → (sortedHeap h2 g.objs.size (as.map Value.ref) out.toArray).get? b = some u := fun b u hb e => (PyProof.Rows.sortedHeap_old hb (Heap.lt_size e)).trans e
    have kS : ∀ b u, s.heap.get? b = some u → (sortedHeap h2 g.objs.size (as.map Value.ref) out.toArray).get? b = some u := fun b u e => kF b u (ne0 _ _ (hk b u e)) (ka _ _ (hk b u e))
    obtain ⟨eF, heF⟩ := PyProof.Rows.sortedHeap_at (vs := as.map Value.ref) (out := out.toArray) hob
    have I1 : Inv X pins σ H { s with heap := sortedHeap h2 g.objs.size (as.map Value.ref) out.toArray, toks := tk } := I.kept (t' := tk) kS
    have hn0 : H g.objs.size = none := I.hok.fresh (Nat.le_of_lt hlt)
    have hlen : (ps.map fun z => V.ref z.1).length ≤ sizeLine := by
      have e := hperm.length_eq
      rw [List.length_map] at e
      rw [List.length_map]
      omega
    have rv : Vals (ps.map fun z => V.ref z.1) out := by
      conv => arg 2; rw [hout]
      exact vals_maps (fun z : Addr × Int × Int => V.ref z.1) (fun z => Value.ref z.1) ps fun _ _ => rfl
    have I2 : Inv X pins σ (upd H g.objs.size (.lst (ps.map fun z => V.ref z.1))) { s with heap := sortedHeap h2 g.objs.size (as.map Value.ref) out.toArray, toks := tk } :=
      I1.take (h' := sortedHeap h2 g.objs.size (as.map Value.ref) out.toArray) (t' := tk) (fun b ob _ e => e) (I.fpOk (Nat.le_of_lt hlt) hn0) ⟨hlen, out, eF, rv, heF⟩
    obtain ⟨H2, I3, gg, qt⟩ := DX.takeT (P := fun b vs => ∃ (j : Nat) (e : Int × Int), as[j]? = some b ∧ ks[j]? = some e ∧ vs = [.int e.1, .int e.2]) I as _ I2 nd fun b hb => by
      obtain ⟨j, hj⟩ := List.mem_iff_getElem?.mp hb
      obtain ⟨e, t1, t2, he, hg⟩ := pr j b hj
      have hbl : s.heap.objs.size ≤ b := Nat.le_of_lt (hG.above b hb)
      refine ⟨hbl, ?_, [.int e.1, .int e.2], ⟨j, e, hj, he, rfl⟩, fun H3 => ⟨(by rw [sizeLine_eq]; show 2 ≤ 16777216; omega), [Value.int e.1 t1, Value.int e.2 t2], .cons ⟨t1, rfl⟩ (.cons ⟨t2, rfl⟩ .nil), ⟨_, kF _ _ (ne0 _ _ hg) (ka _ _ hg), rfl, 0, rfl⟩⟩⟩
      rw [upd_ne (ne0 _ _ hg)]
      exact I.hok.fresh hbl
    have gr : ∀ b u, H b = some u → H2 b = some u := fun b u e => gg b u (by rw [upd_ne (ne_of_none e hn0)]; exact e)
    refine ⟨.ref g.objs.size, H2, I3, rfl, q H2 g.objs.size ps gr hperm hsort hn0 (gg _ _ upd_same) fun zz hzz => ?_⟩
    obtain ⟨v, hv, rfl⟩ := List.mem_map.mp hzz
    obtain ⟨j, b, e, rfl, hj, he, ek⟩ := mem v hv
    have hb := List.mem_of_getElem? hj
    refine ⟨I.hok.fresh (Nat.le_of_lt (hG.above b hb)), Nat.ne_of_lt (hG.there hb), ?_⟩
    obtain ⟨vs', ⟨j', e', j1, j2, ev⟩, hH⟩ := qt b hb
    have ej : j = j' := (List.getElem?_inj (List.getElem?_eq_some_iff.mp hj).1 nd).mp (hj.trans j1.symm)
    rw [← ej, he] at j2
    have ee : e = e' := Option.some.inj j2
    show H2 b = some (.tup [.int (kk (.ref b)).1, .int (kk (.ref b)).2])
    rw [ek, ee, ← ev]
    exact hH
end
end Dn

/-! sorted(name.items()) -/
namespace Dn
open PySem PySem.Spec PyProof.Rows L2
def intEnt : Key × D → Option (Int × Int)
  | (.inl k, .int v) => some (k, v)
  | _ => none
def intEnts : List (Key × D) → Option (List (Int × Int))
  | [] => some []
  | e :: r => match intEnt e, intEnts r with
    | some z, some l => some (z :: l)
    | _, _ => none
def entI (z : Int × Int) : Key × D := (Sum.inl z.1, D.int z.2)
theorem intEnts_eq : ∀ {es : List (Key × D)} {zs : List (Int × Int)}, intEnts es = some zs → es = zs.map entI
  | [], zs, h => by cases h; rfl
  | e :: r, zs, h => by
    unfold intEnts at h
    split at h
    · rename_i z l h1 h2
      cases h
      rw [List.map_cons, intEnts_eq h2]
      congr 1
      unfold intEnt at h1
      split at h1
      · cases h1; rfl
      · cases h1
    · cases h
theorem intEnts_map : ∀ zs : List (Int × Int), intEnts (zs.map entI) = some zs
  | [] => rfl
  | z :: r => by
    rw [List.map_cons]
    unfold intEnts
    rw [intEnts_map r]
    rfl
def sortItems (es : List (Key × D)) : Option Co := (intEnts es).map fun zs => .lst ((isort leP zs).map pD)
/-- sorted(x.items()), x an owned dict of ints -/
def itemsM (i : Nat) : M Co := fun ρ => match ρ[i]? with
  | some (.own _ (.dK es)) => (sortItems es).map fun c => .ok c ρ
  | _ => none
section
variable {bb : Bool} {X : Cx} {G : Gx} {W : WX} {k : Nat} {pos p p2 apos mpos : Pos} {y : Str}
theorem en_sortedItems {i : Nat} (c : Kx true X G W k) (hm : X.mg "sorted" = none) (hN : X.N[i]? = some y := by rfl) (hv : Vis X.env.scope y := by first | exact Or.inl rfl | exact Or.inr (Or.inl rfl) | exact Or.inr (Or.inr rfl)) (hd : (y == ("__debug__" : Str)) = false := by decide) (hcd : (y == ("__classdict__" : Str)) = false := by decide)
    (hbase : attributeBase (.Name y p2) "items" X.env (eval (.Name y p2) X.env) = eval (.Name y p2) X.env := by rfl) (hline : (apos.endLine == mpos.line) = true := by rfl) (hg : Gl X "sorted" := by rfl)
    (he : starEach [.Call (.Attribute (.Name y p2) "items" apos) [] [] mpos] X.env = (false, eval (.Call (.Attribute (.Name y p2) "items" apos) [] [] mpos) X.env) :: starEach [] X.env := by rfl) :
    PE X (.Call (.Name "sorted" p) [.Call (.Attribute (.Name y p2) "items" apos) [] [] mpos] [] pos) (tN G W (itemsM i)) :=
  PE.imp (pe_callB (cr_sortedItK (c.calm rfl)) hg hm PyProof.Rows.boot_sorted (pa_cons (pe_bm0 PySem.F.plainAttrs_dict PySem.F.slot_dict_items PySem.F.type_dict_items mt_itemsK (pe_var hN hv hd hcd) hbase hline) pa_nil he) (by decide) (by decide) he rfl) fun σ H Q ⟨F, ρ, τ, R, q⟩ => by
    unfold itemsM at q
    split at q
    · rename_i b es e
      unfold sortItems at q
      cases z : intEnts es with
      | none => rw [z] at q; exact q.elim
      | some zs =>
        rw [z] at q
        obtain ⟨a, o, g1, g2, ⟨kvs, g3, g4, g5⟩, g6, g7⟩ := R.own e
        subst g3
        have ekv : kvs = zs.map intE := by
          rw [intEnts_eq z] at g4 g5
          have : ∀ {kvs : List (Key × V)} {zs : List (Int × Int)}, kvs.map (·.1) = (zs.map entI).map (·.1) → RpA G.K F (kvs.map (·.2)) ((zs.map entI).map (·.2)) → kvs = zs.map intE := by
            intro kvs
            induction kvs with
            | nil => intro zs h _; cases zs with
              | nil => rfl
              | cons _ _ => cases h
            | cons kv r ih => intro zs h hr; cases zs with
              | nil => cases h
              | cons z zs =>
                rw [List.map_cons, List.map_cons, List.map_cons] at h
                injection h with h1 h2
                cases hr with
                | cons r1 r2 =>
                  rw [List.map_cons, ih h2 r2]
                  congr 1
                  obtain ⟨k0, v0⟩ := kv
                  change k0 = Sum.inl z.1 at h1
                  have r1 : Rp G.K F v0 (.int z.2) := r1
                  cases r1
                  subst h1
                  rfl
          exact this g4 g5
        subst ekv
        refine ⟨_, g1, .inr (.inr (.inl ⟨rfl, .inl ⟨_, g2⟩⟩)), a, _, rfl, rfl, g2, fun v hv => ?_⟩
        have R1 := R.ext (Ext.loose (DX.itemsO v a) R.sub hv)
        have ne : a ≠ v := fun w => by rw [w, hv] at g2; cases g2
        refine ⟨v, a, zs, rfl, upd_same, by rw [upd_ne ne]; exact g2, fun H' l ps grow pm srt hl hL hT => ?_⟩
        -- the new pairs are settled
        let F' : Hp := fun x => if x ∈ ps.map (·.1) then H' x else F x
        have inF : ∀ z ∈ ps, F' z.1 = some (.tup [.int z.2.1, .int z.2.2]) := fun z hz => by
          show (if z.1 ∈ ps.map (·.1) then H' z.1 else F z.1) = _
          rw [if_pos (List.mem_map.mpr ⟨z, hz, rfl⟩)]
          exact (hT z hz).2.2
        have outF : ∀ x, x ∉ ps.map (·.1) → F' x = F x := fun x hx => if_neg hx
        have new : ∀ x, x ∈ ps.map (·.1) → (upd H v (DX.itemsO v a)) x = none := fun x hx => by
          obtain ⟨z, hz, rfl⟩ := List.mem_map.mp hx
          exact (hT z hz).1
        have ex : Ext F (upd H v (DX.itemsO v a)) F' H' := by
          refine ⟨fun x o e => ?_, grow, fun x o e => ?_, fun x h1 h2 => ?_⟩
          · have hx : x ∉ ps.map (·.1) := fun m => by
              have := R1.sub x o e
              rw [new x m] at this
              cases this
            rw [outF x hx]; exact e
          · by_cases hx : x ∈ ps.map (·.1)
            · have e' : (if x ∈ ps.map (·.1) then H' x else F x) = some o := e
              rw [if_pos hx] at e'
              exact e'
            · rw [outF x hx] at e
              exact grow x o (R1.sub x o e)
          · by_cases hx : x ∈ ps.map (·.1)
            · exact new x hx
            · rw [outF x hx] at h1
              exact absurd h2 h1
        have R2 := R1.ext ex
        have hlF : F' l = none := by
          have hx : l ∉ ps.map (·.1) := fun m => by
            obtain ⟨z, hz, e⟩ := List.mem_map.mp m
            exact (hT z hz).2.1 e
          rw [outF l hx]
          exact R1.sub.free hl
        have same : ps.map (·.2) = isort leP zs := by
          refine sorted_uniq (le := fun a b => leP a b = true) leP_anti (pm.trans (isort_perm zs).symm) (List.Pairwise.imp (fun {x y} h => ?_) srt) (isort_sorted leP_tot leP_tr zs)
          have h := SrtO.lexB_no.mp h
          rw [leP_iff]
          omega
        have cor : CoR G.K F' (.lst (ps.map fun z => V.ref z.1)) (.lst ((isort leP zs).map pD)) := by
          refine ⟨_, rfl, ?_⟩
          rw [← same]
          have each : ∀ {L : List (Addr × Int × Int)}, (∀ z ∈ L, z ∈ ps) → RpA G.K F' (L.map fun z => V.ref z.1) ((L.map (·.2)).map pD) := fun {L} => by
            induction L with
            | nil => intro _; exact .nil
            | cons z L ih =>
              intro hL
              exact .cons (.tup (inF z (hL z (List.mem_cons_self ..))) (.cons (.int _) (.cons (.int _) .nil))) (ih fun x hx => hL x (List.mem_cons_of_mem _ hx))
          exact each fun z hz => hz
        exact q F' H' ex.f R2 l ⟨_, hL, cor, hlF, R1.new_0 hl, R1.free_new hl, R1.new_tmp hl⟩
    · exact q.elim
end
end Dn

set_option maxHeartbeats 4000000
/-! set(x), x a list of ints; sorted(set(x)) -/
namespace Dn
open PySem PySem.Spec PyProof.Rows L2
/-- an empty set's object -/
abbrev set0 (w : World) : Obj := { cls := .type "set", dict := none, data := .set #[] 0 (.fresh 0 0 (!w.params.followText "set-order")) }
section
variable {P : Program} {w : World} {A : Around} {E : Value → Shared → Prop} {s : Shared}
theorem set_of_ints {l : Addr} {its : Array Value} (ns : List Int) {Q : Value → Shared → Prop} (hh : A.handled = none) (hl : s.heap.IsList l its) (hit : IntsAre its.toList ns) (hb : ns.length + 1 < scanBound)
    (fin : ∀ (g : Heap) (tk c : Nat), SetR w g s.heap.objs.size (fun j => decide (j ∈ ns)) c → c ≤ ns.length → (∀ b o, s.heap.get? b = some o → g.get? b = some o) → Q (.ref s.heap.objs.size) { s with heap := g, toks := tk }) :
    wpAny (model P w) A (call (.type "set") [.ref l]) Q E s := by
  have sz : its.size = ns.length := (Array.length_toList (xs := its)).symm.trans (IntsAre.length hit)
  obtain ⟨_, _, hmro⟩ := PySem.F.called_set.mro
  have made := PySem.F.called_set.made
  have subb := PySem.F.called_set.sub
  refine wpAny_call <| codeAny_of_tree ?_
  show wpAny _ _ (callAny (.type "set") _) _ _ _
  refine wpAny_pure ⟨Code.quiet_builtin _ (by decide +kernel), codeAny_builtin PySem.F.entry_type_call ?_⟩
  rw [Around.under_plain (weight_type_call_type "set" [.ref l] []) rfl]
  have notT := PySem.F.called_set.notType
  have canC := PySem.F.called_set.canCreate
  have tc1 := PySem.F.typeCall_set_1 (.ref l)
  (repeat (any_goals (first | assumption | wp_step)))
  refine codeAny_mono (code_set_led1 (.ref l) (E := E) (Q₁ := fun v s₁ => v = .ref s.heap.objs.size ∧ s₁ = { s with heap := s.heap.push (set0 w) }) ⟨rfl, rfl⟩) fun r s1 hr => ?_
  match r, hr with
  | .error e, hr => exact hr
  | .ok .next, hr => exact hr.elim
  | .ok .brk, hr => exact hr.elim
  | .ok .cont, hr => exact hr.elim
  | .ok (.ret v), hr =>
    obtain ⟨rfl, rfl⟩ := hr
    let g1 := s.heap.push (set0 w)
    have at1 : g1.get? s.heap.objs.size = some (set0 w) := Heap.get?_push_size _ rfl
    have ty1 : Shared.TypeIs { s with heap := g1 } (.ref s.heap.objs.size) "set" := ⟨_, at1, rfl⟩
    have look := PySem.F.called_set.init.lookup
    have bnd := PySem.F.called_set.init.bind (.ref s.heap.objs.size)
    (repeat (any_goals (first | assumption | wp_step)))
    refine codeAny_mono (codeAny_call_builtin (R := wants (fun r s₂ => r = .none ∧ ∃ g tk c, s₂ = { s with heap := g, toks := tk } ∧ SetR w g s.heap.objs.size (fun j => decide (j ∈ ns)) c ∧ c ≤ ns.length ∧ (∀ b o, s.heap.get? b = some o → g.get? b = some o)) E) PySem.F.called_set.init.plain PySem.F.entry_set_init (check_set_init_1 ty1 ?_)) fun r2 s2 hr2 => ?_
    · obtain ⟨⟨oc, od, odat, osl⟩, hol, hcl, nl, hdl⟩ := hl
      simp only at hcl hdl
      subst hcl; subst hdl
      have hol1 : g1.get? l = some { cls := .type "list", dict := od, data := .seq its nl, slots := osl } := Heap.get?_push_of_some _ hol
      have subS := PySem.F.sub_list_set
      have subF := PySem.F.sub_list_frozenset
      have notD : (Value.type "list" == Value.type "dict") = false := by decide
      have hl1 : g1.IsList l its := ⟨_, hol1, rfl, nl, rfl⟩
      unfold Builtin.«set.__init__» noKeywords Builtin.Frozenset.updateFrom
      generalize hPI : pyIter = PI
      wp_walk
      subst hPI
      refine wpAny_pyIter_list hl1 (wpAny_bind (wpAny_runValue ?_))
      have ls : l < s.heap.objs.size := Heap.lt_size hol
      have e1 : g1.objs.size = s.heap.objs.size + 1 := Heap.size_push ..
      have neI : l ≠ g1.objs.size := Nat.ne_of_lt (by rw [e1]; exact Nat.lt_succ_of_lt ls)
      have out : s.heap.objs.size ∉ [g1.objs.size, l] := by
        simp only [List.mem_cons, List.not_mem_nil, or_false, not_or]
        exact ⟨Nat.ne_of_lt (by rw [e1]; exact Nat.lt_succ_self _), Nat.ne_of_gt ls⟩
      have vals : ∀ (i : Nat) (v : Value), its[i]? = some v → ∃ k t, ns[i]? = some k ∧ v = .int k t := fun i v hv => by
        have hi : i < ns.length := by rw [← sz]; exact (Array.getElem?_eq_some_iff.mp hv).1
        obtain ⟨t, e⟩ := PyProof.Rows.IntsAre.int_at hit i v (by rw [Array.getElem?_toList]; exact hv)
        refine ⟨ns[i], t, List.getElem?_eq_getElem hi, e.trans ?_⟩
        rw [List.getD_eq_getElem?_getD, List.getElem?_eq_getElem hi] <;> rfl
      refine set_update_ints ((Walks.list (by simp [hh]) _ l neI its).toS) s.heap.objs.size out ns sz hb vals (its.size - 0) 0 _ (by omega) (Nat.zero_le _) ⟨⟨_, Heap.get?_push_size _ rfl, rfl, rfl⟩, (hl1.push _)⟩ ⟨0, Nat.le_refl 0, setR_new_at (Heap.get?_push_of_some _ at1)⟩ ?_
      rintro ⟨g, gg, dd, tk, os⟩ c hm hc hS
      have eg : gg = s.gens := hm.gens
      have ed : dd = s.drawn := hm.drawn
      have eo : os = s.os := hm.os
      subst eg ed eo
      show wpAny _ _ _ _ _ _
      refine wpAny_pure ?_
      show wpAny _ _ (ret Value.none) _ _ _
      rw [sz] at hc
      refine wpAny_pure ⟨rfl, g, tk, c, rfl, hS, hc, fun b o e => ?_⟩
      have lb : b < s.heap.objs.size := Heap.lt_size e
      refine hm.heap b o ?_ (Heap.get?_push_of_some _ (Heap.get?_push_of_some _ e))
      simp only [List.mem_cons, List.not_mem_nil, or_false, not_or]
      exact ⟨Nat.ne_of_lt lb, Nat.ne_of_lt (by rw [e1]; exact Nat.lt_succ_of_lt lb)⟩
    · match r2, hr2 with
      | .error e, hr2 => exact hr2
      | .ok .next, hr2 => exact hr2.elim
      | .ok .brk, hr2 => exact hr2.elim
      | .ok .cont, hr2 => exact hr2.elim
      | .ok (.ret v), hr2 =>
        obtain ⟨rfl, g, tk, c, rfl, hS, hc, k⟩ := hr2
        (repeat (any_goals (first | assumption | wp_step)))
        exact fin _ _ _ hS hc k
end
section
variable {X : Cx}
def rSetOfI (K : PySem.W.Frag) (w : World) : List V → Hp → VK → Prop := fun xs H Q => ∃ (l : Addr) (ns : List Int), xs = [V.ref l] ∧ SqL K H l (ns.map V.int) ∧ ns.length < 64 ∧
  ∀ a n, H a = none → n < 64 → Q (.ref a) (upd H a (SetO w a (fun j => decide (j ∈ ns)) n))
theorem cr_setOfI (hc : X.calm = true) : CallR X (.type "set") (rSetOfI X.K X.w) := by
  rintro pins s σ H xs us Q I r ⟨l, ns, rfl, hl, hf, q⟩
  rw [Vals.ref1 r]
  obtain ⟨its, rv, pl, hz⟩ := I.list hl
  have hn : H s.heap.objs.size = none := I.hok.fresh (Nat.le_refl _)
  refine set_of_ints (P := X.prog) (w := X.w) ns (I.ok.hd hc) pl.isList (ints_of_vals rv) (by unfold scanBound; omega) fun g tk c R hcn k => ?_
  exact ⟨.ref s.heap.objs.size, upd H s.heap.objs.size (SetO X.w s.heap.objs.size (fun j => decide (j ∈ ns)) c), I.laid (t' := tk) k (Nat.le_refl _) (setO_new R), rfl, q _ c hn (by omega)⟩
def sortSetI : D → Option Co
  | .lst l => match intsOf l with
    | some ns => if ns.length < 64 then some (.lst ((isort leI (once ns)).map D.int)) else none
    | none => none
  | _ => none
variable {bb : Bool} {G : Gx} {W : WX} {k : Nat} {pos p p2 q2 : Pos} {e : Expr} {f : M D}
theorem en_sortSetI (c : Kx true X G W k) (hm : X.mg "sorted" = none) (hm2 : X.mg "set" = none) (ha : PE X e (tI G W f)) (hg : Gl X "sorted" := by rfl) (hg2 : Gl X "set" := by rfl) (he : starEach [e] X.env = (false, eval e X.env) :: starEach [] X.env := by rfl)
    (he2 : starEach [.Call (.Name "set" p2) [e] [] q2] X.env = (false, eval (.Call (.Name "set" p2) [e] [] q2) X.env) :: starEach [] X.env := by rfl) :
    PE X (.Call (.Name "sorted" p) [.Call (.Name "set" p2) [e] [] q2] [] pos) (tN G W (M.bind f fun d => M.lift (sortSetI d))) :=
  PE.imp (pe_callB (cr_sortedSet (c.calm rfl)) hg hm PyProof.Rows.boot_sorted (pa_cons (pe_callTy (cr_setOfI (c.calm rfl)) hg2 hm2 PyProof.Rows.boot_set (pa_cons ha pa_nil he) (by decide) (by decide) he rfl) pa_nil he2) (by decide) (by decide) he2 rfl) fun σ H Q ⟨F, ρ, τ, R, q⟩ => ⟨F, ρ, τ, R, (Fin.bind q).imp fun d ρ1 F1 H1 s1 R1 q1 v rv => by
    obtain ⟨d', ed, z⟩ := Fin.lift q1
    unfold sortSetI at ed
    split at ed
    · split at ed
      · rename_i l ns hp
        split at ed
        · rename_i hn
          cases ed
          have el := intsOf_eq hp
          subst el
          cases rv with
          | lst g r =>
            have e4 := r.of_ints
            subst e4
            refine ⟨_, ns, rfl, .of (R1.sub _ _ g), hn, fun a n hA n64 => ?_⟩
            have R2 : Rep G F1 (upd H1 a (SetO X.w a (fun j => decide (j ∈ ns)) n)) ρ1 σ τ := R1.ext (Ext.loose _ R1.sub hA)
            refine ⟨a, _, n, rfl, upd_same, n64, fun ms p' up mem len hp' => ?_⟩
            have e5 : ms = isort leI (once ns) := by
              refine sorted_uniq (le := fun a b => leI a b = true) leI_anti ?_ (up.imp fun h => decide_eq_true (Int.le_of_lt h)) (isort_sorted leI_tot leI_tr _)
              refine (Perm_of ?_ (nodup_once ns) fun x => ?_).trans (isort_perm (once ns)).symm
              · rw [List.nodup_iff_pairwise_ne]
                exact up.imp fun h => Int.ne_of_lt h
              · rw [mem, mem_once]
                exact decide_eq_true_iff
            obtain ⟨R3, fr⟩ := R2.newly (c := .lst ((isort leI (once ns)).map D.int)) (o := .lst (ms.map V.int)) hp' ⟨_, rfl, by rw [e5]; exact RpA.ints _⟩
            exact z F1 _ (Same.refl _) R3 p' fr
        · cases ed
      · cases ed
    · cases ed⟩
end
end Dn

/-! Texts: str(i), f'..', split -/
namespace Dn
open PySem PySem.Spec PyProof.Rows L2
section
variable {bb : Bool} {X : Cx} {G : Gx} {W : WX} {k : Nat} {pos p p2 apos : Pos} {e o v1 v2 : Expr} {rest : List Expr} {f fo : M D}
/-- a small number's text -/
def strI (i : Int) : Option D := if i.natAbs < 1000000 then some (.str (toString i : Str)) else none
theorem log_small {i : Int} (h : i.natAbs < 1000000) : i.natAbs.log2 < 1920 := by
  have : i.natAbs.log2 ≤ i.natAbs := Nat.log2_le_self _
  rcases Nat.eq_zero_or_pos i.natAbs with z | z
  · rw [z]; decide
  · refine Nat.lt_of_lt_of_le ((Nat.log2_lt (by omega)).mpr (show i.natAbs < 2 ^ 20 from Nat.lt_trans h (by decide))) (by decide)
def strD : D → Option D
  | .int i => strI i
  | _ => none
theorem ei_strInt (c : Kx bb X G W k) (hm : X.mg "str" = none) (ha : PE X e (tI G W f)) (hg : Gl X "str" := by rfl) (he : starEach [e] X.env = (false, eval e X.env) :: starEach [] X.env := by rfl) : PE X (.Call (.Name "str" p) [e] [] pos) (tI G W (un1 strD f)) :=
  PE.imp (pe_callTy call_str_int hg hm PyProof.Rows.boot_str (pa_cons ha pa_nil he) (by decide) (by decide) he rfl) fun σ H Q ⟨F, ρ, τ, R, q⟩ => ⟨F, ρ, τ, R, (Fin.bind q).imp fun d ρ1 F1 H1 s1 R1 q1 v rv => by
    obtain ⟨d', ed, z⟩ := Fin.lift q1
    unfold strD at ed
    split at ed
    · unfold strI at ed
      split at ed
      · rename_i hi
        cases ed
        cases rv
        exact ⟨_, rfl, log_small hi, z F1 H1 (Same.refl _) R1 _ (.str _)⟩
      · cases ed
    · cases ed⟩
/-- a part {..} of an f-text -/
def fmtD : D → Option D
  | .str y => if y.length ≤ 100000 then some (.str y) else none
  | .int i => strI i
  | _ => none
theorem ei_fmt (he : PE X e (tI G W f)) : PE X (.FormattedValue e (-1) none pos) (tI G W (un1 fmtD f)) :=
  PE.imp (pe_fmt he) fun σ H Q ⟨F, ρ, τ, R, q⟩ => ⟨F, ρ, τ, R, (Fin.bind q).imp fun d ρ1 F1 H1 s1 R1 q1 v rv => by
    obtain ⟨d', ed, z⟩ := Fin.lift q1
    unfold fmtD at ed
    split at ed
    · split at ed
      · rename_i hi
        cases ed
        cases rv
        exact .inl ⟨_, rfl, line5 hi, z F1 H1 (Same.refl _) R1 _ (.str _)⟩
      · cases ed
    · unfold strI at ed
      split at ed
      · rename_i hi
        cases ed
        cases rv
        exact .inr ⟨_, rfl, log_small hi, z F1 H1 (Same.refl _) R1 _ (.str _)⟩
      · cases ed
    · cases ed⟩
/-- the parts one behind the other -/
def joinM : List (M D) → Str → M D
  | [], acc => M.pure (.str acc)
  | g :: gs, acc => M.bind g fun d => match d with
    | .str y => if (acc ++ y).length ≤ 100000 then joinM gs (acc ++ y) else fun _ => none
    | _ => fun _ => none
inductive PJs (X : Cx) (G : Gx) (W : WX) : List Expr → List (M D) → Prop where
  | nil : PJs X G W [] []
  | cons {e : Expr} {g : M D} {es : List Expr} {gs : List (M D)} (h : PE X e (tI G W g)) (r : PJs X G W es gs) : PJs X G W (e :: es) (g :: gs)
theorem PJs.pj {es : List Expr} {gs : List (M D)} (h : PJs X G W es gs) : PJ X es (gs.map (tI G W)) := by
  induction h with
  | nil => exact .nil
  | cons h r ih => exact .cons h ih
theorem tJs_of {τ : Tmp} {σ : L2.St} {Q : Str → Hp → Prop} : ∀ (gs : List (M D)) (acc : Str) (F H : Hp) (ρ : Sto), Rep G F H ρ σ τ → Fin G W F σ τ (fun d _ F' H' => ∀ y, d = .str y → Q y H') (joinM gs acc ρ) → tJs (gs.map (tI G W)) acc σ H Q
  | [], acc, F, H, ρ, R, q => (Fin.pure q) F H (Same.refl F) R acc rfl
  | g :: gs, acc, F, H, ρ, R, q => ⟨F, ρ, τ, R, (Fin.bind q).imp fun d ρ1 F1 H1 s1 R1 q1 v rv => by
    cases d with
    | str y =>
      cases rv
      by_cases c : (acc ++ y).length ≤ 100000
      · have q1 : Fin G W F1 σ τ (fun d _ F' H' => ∀ y, d = .str y → Q y H') ((if (acc ++ y).length ≤ 100000 then joinM gs (acc ++ y) else fun _ => none) ρ1) := q1
        rw [if_pos c] at q1
        exact ⟨y, rfl, line5 c, tJs_of gs (acc ++ y) F1 H1 ρ1 R1 q1⟩
      · have q1 : Fin G W F1 σ τ (fun d _ F' H' => ∀ y, d = .str y → Q y H') ((if (acc ++ y).length ≤ 100000 then joinM gs (acc ++ y) else fun _ => none) ρ1) := q1
        rw [if_neg c] at q1
        exact q1.elim
    | _ => exact q1.elim⟩
theorem joinM_str {τ : Tmp} {σ : L2.St} {F : Hp} {Q : VK} : ∀ (gs : List (M D)) (acc : Str) (ρ : Sto), Fin G W F σ τ (fun d _ F' H' => ∀ v, Rp G.K F' v d → Q v H') (joinM gs acc ρ) → Fin G W F σ τ (fun d _ F' H' => ∀ y, d = .str y → Q (.str y) H') (joinM gs acc ρ) := fun gs acc ρ q =>
  q.imp fun d ρ' F' H' s R h y e => by
    subst e
    exact h _ (.str _)
theorem ei_joined {gs : List (M D)} (h : PJs X G W (v1 :: v2 :: rest) gs) : PE X (.JoinedStr (v1 :: v2 :: rest) pos) (tI G W (joinM gs Str.empty)) :=
  PE.imp (pe_joined h.pj) fun σ H Q ⟨F, ρ, τ, R, q⟩ => tJs_of gs Str.empty F H ρ R (joinM_str gs _ ρ q)
/-- x.split(y), y not empty -/
def splitD : D → D → Option Co
  | .str a, .str b => if (b.length == 0) = false ∧ a.length ≤ 90000 then some (.lst ((Txt.split a b).map D.str)) else none
  | _, _ => none
def splitM (fo f : M D) : M Co := M.bind fo fun a => match a with
  | .str x => M.bind f fun b => M.lift (splitD (.str x) b)
  | _ => fun _ => none
theorem rpa_strs {K : PySem.W.Frag} {F : Hp} : ∀ l : List Str, RpA K F (l.map V.str) (l.map D.str)
  | [] => .nil
  | x :: l => .cons (.str x) (rpa_strs l)
theorem en_split (ho : PE X o (tI G W fo)) (he : PE X e (tI G W f)) (hs : starEach [e] X.env = [(false, eval e X.env)] := by rfl) (hbase : attributeBase o "split" X.env (eval o X.env) = eval o X.env := by rfl) (hline : (apos.endLine == pos.line) = true := by rfl) :
    PE X (.Call (.Attribute o "split" apos) [e] [] pos) (tN G W (splitM fo f)) :=
  PE.imp (pe_split ho he hs hbase hline) fun σ H Q ⟨F, ρ, τ, R, q⟩ => ⟨F, ρ, τ, R, (Fin.bind q).imp fun a ρ1 F1 H1 s1 R1 q1 v rv => by
    cases a with
    | str a =>
      cases rv
      refine ⟨⟨a, rfl⟩, F1, ρ1, τ, R1, (Fin.bind q1).imp fun b ρ2 F2 H2 s2 R2 q2 w rw => ?_⟩
      obtain ⟨d', ed, z⟩ := Fin.lift q2
      cases b with
      | str b =>
        unfold splitD at ed
        simp only at ed
        split at ed
        · rename_i hc
          cases ed
          cases rw
          refine ⟨a, b, rfl, rfl, hc.1, Nat.le_trans (Nat.add_le_add_right hc.2 2) (by rw [sizeLine_eq]; decide), fun p hp => ?_⟩
          obtain ⟨R3, fr⟩ := R2.newly (c := .lst ((Txt.split a b).map D.str)) hp ⟨_, rfl, rpa_strs _⟩
          exact z F2 _ (Same.refl _) R3 p fr
        · cases ed
      | _ => cases ed
    | _ => exact q1.elim⟩
end
end Dn

set_option maxHeartbeats 1000000
/-! an own error whose __init__ begins with super().__init__(e) -/
namespace Dn
open PySem PySem.Spec PyProof.Rows L2
structure SupScope (N ps : List Str) (sc : Scope) : Prop where
  kind : sc.kind = .function
  co : sc.isCoroutine = false
  gen : sc.isGenerator = false
  nd : N.Nodup
  pre : N.take ps.length = ps
  par : ∀ x ∈ ps, sc.names.lookup x = some .local
  nocell : ∀ y ∈ sc.names, y.2 ≠ .cell
  free : ∀ y ∈ sc.names, y.2 = .free → y.1 = ("__class__" : Str)
  cls : sc.names.lookup ("__class__" : Str) = some .free
  sup : sc.names.lookup ("super" : Str) = some .globalImplicit
abbrev supEnv (q : Str) (scope : Scope) (L f : Addr) (cd : Value) (cc : Addr) : Env := PySem.W.ksEnv q scope L f cd cc
/-- the context of such a body -/
def supCx (CX : CXT) (P : Program) (w : World) (K : PySem.W.Frag) (mg : Str → Option Value) (base : Heap) (N : List Str) (q : Str) (scope : Scope) (f : Addr) (cd : Value) (cc : Addr) (A : Around) (outer : List Env) (s : Shared) (H : Hp) (E : XK) : Cx where
  prog := P
  w := w
  K := K
  mg := mg
  base := base
  A := A.deeper (supEnv q scope s.heap.objs.size f cd cc)
  N := N
  s_0 := s
  H_0 := H
  env := supEnv q scope s.heap.objs.size f cd cc
  outer := outer
  stack := supEnv q scope s.heap.objs.size f cd cc :: outer
  ex := []
  calm := true
  fn := fun _ => false
  pn := []
  xe := fun e s' => wpAny (model P w) (A.deeper (supEnv q scope s.heap.objs.size f cd cc)) (leaving (supEnv q scope s.heap.objs.size f cd cc) e) (fun _ s'' => CX outer H s E e s'') (fun e' s'' => CX outer H s E e' s'') s'
section
variable {CX : CXT} {P : Program} {w : World} {K : PySem.W.Frag} {mg : Str → Option Value} {base : Heap} {N ps : List Str} {q : Str} {scope : Scope} {f cc D : Addr} {cd : Value} {A : Around} {outer : List Env} {s : Shared} {H : Hp} {E : XK}
theorem sup_start {h₀ : Heap} {tk : Nat} {us : List Value} {vs : List V} {cl : Value} {cld : Option Addr} {csl : Array (Option Value)} (S : SupScope N ps scope) (hd : A.handled = none) (e0 : Env0 P w K mg base A outer s H) (hl : vs.length = ps.length) (r : Vals vs us)
    (hcc : K.lookup cc = some ⟨cl, cld, .cell (some (.ref D)), csl⟩) (hns : h₀.Ns s.heap.objs.size fun x => (ps.zip us).reverse.lookup x) (kp : ∀ b o, s.heap.get? b = some o → h₀.get? b = some o) :
    Inv (supCx CX P w K mg base N q scope f cd cc A outer s H E) [] (L2.start N vs) H { s with heap := h₀, toks := tk } := by
  have hpl : ps.length ≤ N.length := by have := congrArg List.length S.pre; rw [List.length_take] at this; omega
  have noA : ∀ b : Addr, b ∉ (supCx CX P w K mg base N q scope f cd cc A outer s H E).ex := fun b z => absurd (show b ∈ ([] : List Addr) from z) (by simp)
  have hb : base.get? cc = some ⟨cl, cld, .cell (some (.ref D)), csl⟩ := e0.mod.kin _ _ hcc
  have lk : ∀ {y : Str} {c : Addr}, ([(("__class__" : Str), cc)] : List (Str × Addr)).lookup y = some c → y = "__class__" ∧ c = cc := fun {y c} e => by
    have m := PySem.mem_of_lookup e
    rw [List.mem_singleton] at m
    injection m with m1 m2
    exact ⟨m1, m2⟩
  refine ⟨⟨e0.mod, S.kind, rfl, rfl, Nat.le_refl _, fun y z c e1 e2 => (lk e1).1.trans (lk e2).1.symm, fun y hy => ?_, fun y c z _ => ?_, fun _ => hd, Around.frames_deeper e0.frames, .inr ⟨rfl, rfl⟩, fun b z => absurd z (noA b), e0.bs, e0.bsz, fun b _ _ => noA b,
      fun b z => absurd z (noA b), e0.funs, e0.frf⟩,
    rfl, e0.bare, Un.kept kp, ⟨_, hns, fun i y v h1 h2 h3 => ?_⟩, fun y c e => ?_, e0.hok.fresh (Nat.le_refl _), fun y c e => ?_, fun q hq => absurd (show q ∈ ([] : List (Addr × Obj)) ++ [] from hq) (by simp), e0.hok.kept kp, ?_⟩
  · have hy : scope.names.lookup y = some .cell ∨ scope.names.lookup y = some .free := hy
    rcases hy with hy | hy
    · exact absurd rfl (S.nocell _ (PySem.mem_of_lookup hy))
    · have e := S.free _ (PySem.mem_of_lookup hy) rfl
      have e : y = "__class__" := e
      subst e
      exact ⟨cc, rfl⟩
  · have z : false = true := z
    cases z
  · have hi : i < vs.length := by
      unfold L2.start at h2
      by_cases hi : i < vs.length
      · exact hi
      · rw [List.getElem?_append_right (by simpa using hi)] at h2
        rw [List.getElem?_replicate] at h2
        split at h2 <;> cases h2
    have ha : vs[i]? = some v := by
      unfold L2.start at h2
      rw [List.getElem?_append_left (by simpa using hi), List.getElem?_map] at h2
      cases e : vs[i]? with
      | none => rw [e] at h2; cases h2
      | some a => rw [e] at h2; cases h2; rfl
    obtain ⟨u, hu, rv⟩ := r.get ha
    have hp : ps[i]? = some y := by
      rw [← S.pre, List.getElem?_take_of_lt (by omega)]; exact h1
    have ndP : ps.Nodup := by rw [← S.pre]; exact S.nd.sublist (List.take_sublist _ _)
    have hk : scope.names.lookup y = some .local := S.par y (List.mem_of_getElem? hp)
    refine ⟨u, rv, .inl ⟨hk, ?_⟩⟩
    have e1 := bindL_get (kindOf := fun y => scope.names.lookup y) (m := fun _ => none) ndP hp hu hk
    rw [bindL_loc _ _ (fun x hx => S.par x.1 (List.of_mem_zip (show (x.1, x.2) ∈ ps.zip us from hx)).1), Option.or_none] at e1
    exact e1
  · obtain ⟨e1, e2⟩ := lk e
    subst e2
    exact ⟨_, _, kp _ _ (e0.bs _ _ hb).1, rfl⟩
  · obtain ⟨e1, e2⟩ := lk e
    subst e2
    exact (e0.bs _ _ hb).2
  · unfold L2.start
    show _ = N.length
    rw [List.length_append, List.length_map, List.length_replicate]
    omega

theorem Inv.nopins {X : Cx} {pins pins' : List (Addr × Obj)} {σ : L2.St} {H : Hp} {s : Shared} (I : Inv X pins σ H s) (h : ∀ p ∈ pins', p ∈ pins) : Inv X pins' σ H s := Inv.pins_of I fun p hp => I.pin p (List.mem_append_right _ (h p hp))
/-- what the written part says of a class whose __init__ is so -/
structure SupC (K : PySem.W.Frag) (C D : Addr) : Prop where
  oex : OexC K C
  ve : PySem.W.subIn K (.ref C) (.type "ValueError") = some true
  sub : PySem.W.mroIn K C (.ref D) = some true
  dcls : PySem.W.isClsIn K D = true
  init : PySem.W.ks_superIn K C D "__init__" = some (some (.builtin "ValueError.__init__"))
  tp : PySem.W.nsIn K cStatics "thirdparty.any" = some none
/-- .. of its __init__'s code and module -/
structure SupF (P : Program) (K : PySem.W.Frag) (mg : Str → Option Value) (cda : Addr) : Prop where
  code : ∃ ccl cdd ccs vs file tf, K.lookup cda = some ⟨ccl, cdd, .fields vs, ccs⟩ ∧ vs[2]? = some (.str file tf) ∧ ((P.main.file : Str) == file) = true
  top : (P.main.scope.names.lookup ("super" : Str)).isSome = false
  sup : mg "super" = none
theorem fn_sup {CX : CXT} {P : Program} {w : World} {K : PySem.W.Frag} {mg : Str → Option Value} {base : Heap} {k : Nat} {f cc cda D : Addr} {name qual : Str} {params : Arguments} {e : Expr} {rest : List Stmt} {scope : Scope} {dV kV doc pm ct oc cl : Value} {an od cld : Option Addr}
    {osl csl : Array (Option Value)} {N ps : List Str} {sp : Sp} {p0 p1 p2 p3 p4 : Pos} {ar : Arg}
    (lk : K.lookup f = some ⟨oc, od, .func (PySem.W.ksFn name qual params (.Expr (.Call (.Attribute (.Call (.Name "super" p0) [] [] p1) "__init__" p2) [e] [] p3) p4 :: rest) scope dV kV doc pm an (.ref cda) ct cc), osl⟩)
    (hcc : K.lookup cc = some ⟨cl, cld, .cell (some (.ref D)), csl⟩) (hcd : PySem.W.codeIn K (.ref cda) qual = true) (S : SupScope N ps scope) (SF : SupF P K mg cda)
    (hp : (params.posonlyargs ++ params.args).head? = some ar) (h0 : ps[0]? = some ar.arg)
    (len : ∀ vs H Q E, sp vs H Q E → vs.length = ps.length)
    (hbody : ∀ (A : Around) (outer : List Env) (s : Shared) (H : Hp) (vs : List V) (Q : VK) (E : XK), Room k (A.deeper (supEnv qual scope s.heap.objs.size f (.ref cda) cc)) → sp vs H Q E →
      ∃ (te : TE) (t : TS) (a C : Addr) (ws : List V), PE (supCx CX P w K mg base N qual scope f (.ref cda) cc A outer s H E) e te ∧ PSs (supCx CX P w K mg base N qual scope f (.ref cda) cc A outer s H E) rest t ∧ vs = .ref a :: ws ∧ SupC K C D ∧
        H a = some (exo a C none) ∧ te (L2.start N vs) H fun _ H1 => H1 a = some (exo a C none) ∧ t { nx := fun _ H' => Q .non H', rt := Q } (L2.start N vs) H1)
    (hst : ∀ (env : Env), starEach [e] env = (false, eval e env) :: starEach [] env := by intro _; rfl) (hk : scope.kind = .function := by rfl) (hco : scope.isCoroutine = false := by rfl) (hgen : scope.isGenerator = false := by rfl)
    {pl : Env → Sem Bool} (hme : ∀ (env : Env), eval (.Call (.Attribute (.Call (.Name "super" p0) [] [] p1) "__init__" p2) [e] [] p3) env = (do
      let ov ← attributeBase (.Call (.Name "super" p0) [] [] p1) "__init__" env (eval (.Call (.Name "super" p0) [] [] p1) env)
      standAt p2.atName
      let (f, first) ← holding [ov] (getMethod ov "__init__" (pl env))
      callWith p3 f first (backTo p3 (starEach [e] env)) []) := by intro _; rfl)
    (hsw : ∀ (env : Env), swapsWith (.Call (.Attribute (.Call (.Name "super" p0) [] [] p1) "__init__" p2) [e] [] p3) none p4.line env = pure false := by intro _; rfl) :
    FnOk P w K mg base CX (k + 1) f (PySem.W.ksFn name qual params (.Expr (.Call (.Attribute (.Call (.Name "super" p0) [] [] p1) "__init__" p2) [e] [] p3) p4 :: rest) scope dV kV doc pm an (.ref cda) ct cc) ps sp := by
  refine ⟨len, fun A outer s H args us vs Q E hr e0 hb r hsp => ?_⟩
  have hl := len _ _ _ _ hsp
  have KX : K.In s.heap := e0.mod.kin.keeps fun b o e => (e0.bs b o e).1
  have lim : s.heap.NoLimit := e0.mod.nolimit.keeps fun b o e => (e0.bs b o e).1
  obtain ⟨te, t, a, C, ws, he, ht, ev, SC, ea, hq⟩ := hbody A outer s H vs Q E (hr.deeper _) hsp
  refine PySem.ks_codeAny_call_defAt hr.depth (KX _ _ lk) rfl lim (PySem.W.codeRec_of KX hcd) rfl hb S.nocell (fun x hx => S.par x.1 (List.of_mem_zip (show (x.1, x.2) ∈ ps.zip us from hx)).1) (fun h₀ hns kp => ?_) hco hgen hk
  have I : Inv (supCx CX P w K mg base N qual scope f (.ref cda) cc A outer s H E) [] (L2.start N vs) H { s with heap := h₀, toks := s.toks + (ps.zip us).length } := sup_start S hr.hd e0 hl r hcc hns kp
  obtain ⟨u0, ur, eu, ru⟩ : ∃ u0 ur, us = u0 :: ur ∧ RelV (.ref a) u0 := by
    subst ev
    cases r with
    | cons r1 r2 => exact ⟨_, _, rfl, r1⟩
  obtain rfl : u0 = Value.ref a := ru
  have eN : N[0]? = some ar.arg := by
    have z := S.pre
    rw [← z, List.getElem?_take] at h0
    split at h0
    · exact h0
    · cases h0
  have kar : scope.names.lookup ar.arg = some .local := S.par _ (List.mem_of_getElem? h0)
  have es0 : (L2.start N vs)[0]? = some (some (V.ref a)) := by
    subst ev
    rfl
  obtain ⟨cd, hcdD⟩ : ∃ cd, PySem.W.clsIn K D = some cd := Option.isSome_iff_exists.mp SC.dcls
  obtain ⟨ccl, cdd, ccs, fvs, file, tf, lkc, hvs, hfile⟩ := SF.code
  obtain ⟨hp0, g0, d0, t0, os0⟩ := s
  have KI : K.In h₀ := I.kIn
  obtain ⟨oD, hD1, hD2⟩ : ∃ oD, h₀.get? D = some oD ∧ oD.data = .cls cd := by
    unfold PySem.W.clsIn at hcdD
    split at hcdD
    · rename_i hz
      cases hcdD
      exact ⟨_, KI _ _ hz, rfl⟩
    · cases hcdD
  obtain ⟨t1, hx⟩ := exo_at I.hok ea
  refine PySem.ks_wpAt_mono (Q := fun fl s' => SP (supCx CX P w K mg base N qual scope f (.ref cda) cc A outer ⟨hp0, g0, d0, t0, os0⟩ H E) [] { nx := fun _ H' => Q .non H', rt := Q } fl s')
    (E' := fun e s' => wpAny (model P w) (A.deeper (supEnv qual scope hp0.objs.size f (.ref cda) cc)) (leaving (supEnv qual scope hp0.objs.size f (.ref cda) cc) e) (fun _ s'' => CX outer H ⟨hp0, g0, d0, t0, os0⟩ E e s'') (fun e' s'' => CX outer H ⟨hp0, g0, d0, t0, os0⟩ E e' s'') s') ?_ (fun fl s' hs => ?_) (fun e s' hs => hs)
  · refine PySem.ks_wpAt_execs_cons (PySem.ks_wpAt_Expr_any (PySem.ks_wpAt_MethodCall ?_ (hme _)) (by unfold interactive; rw [show (callEnv (PySem.W.ksFn name qual params (.Expr (.Call (.Attribute (.Call (.Name "super" p0) [] [] p1) "__init__" p2) [e] [] p3) p4 :: rest) scope dV kV doc pm an (.ref cda) ct cc) hp0.objs.size f).scope.kind = .function from hk]; rfl) (hsw _))
    refine PySem.ks_wpAt_super_base (env := supEnv qual scope hp0.objs.size f (.ref cda) cc) S.sup S.cls rfl rfl (KI _ _ lk) rfl hp rfl (KI _ _ lkc) rfl hvs hfile SF.top ?_
    obtain ⟨mb, b1, b2⟩ := I.mod.blt
    refine PySem.W.ks_loadName_global hk S.sup (PySem.Calls.loadGlobal_builtin (env := supEnv qual scope hp0.objs.size f (.ref cda) cc) (I.mod.glob.keeps I.bk) SF.sup (b1.keeps I.bk) ((b2 "super" (by decide)).trans PyProof.Rows.Boot.«super») ⟨rfl, ?_⟩)
    refine wpAny_loadName_free hk S.cls rfl (c := cc) (v := .ref D) ⟨_, KI _ _ hcc, rfl⟩ ?_
    obtain ⟨m, hn, hlk⟩ := I.loc
    obtain ⟨u, ru, hlook⟩ := hlk 0 ar.arg (.ref a) eN es0 (.inl kar)
    obtain rfl : u = Value.ref a := ru
    have hm : m ar.arg = some (.ref a) := by
      rcases hlook with ⟨_, z⟩ | ⟨z, _⟩
      · exact z
      · exfalso
        have z : scope.names.lookup ar.arg = some .cell ∨ scope.names.lookup ar.arg = some .free := z
        rw [kar] at z
        rcases z with z | z <;> cases z
    refine wpAny_loadName_local hk kar hn hm ?_
    refine PySem.ks_wpAny_isType_cls hD1 hD2 ⟨rfl, ?_⟩
    refine PySem.ks_wpAny_call_super hD1 hD2 hx rfl (fun c z => nomatch z) (PySem.W.looks_mroIn KI SC.sub) (fun h1 e1 k1 => ?_)
    have I1 : Inv (supCx CX P w K mg base N qual scope f (.ref cda) cc A outer ⟨hp0, g0, d0, t0, os0⟩ H E) [] (L2.start N vs) H ⟨h1, g0, d0, t0 + (ps.zip us).length, os0⟩ := I.kept k1
    obtain ⟨nm, qn, Nn, bs, bm, sn, sub, ab, col, dd, z0, z1, z2, z3, z5, hC, hbm⟩ := SC.oex.cls
    have hcl : PySem.W.clsIn K C = some { name := nm, bases := bs, mro := .ref C :: bm, ns := Nn, qualname := qn, hasDict := true, slotNames := sn, subclasses := sub, abstract := ab, collection := col, hasDel := false } := by unfold PySem.W.clsIn; rw [hC] <;> rfl
    have IA : PySem.W.InstAt h1 a { cls := .ref C, dict := none, data := .fields #[.ref t1, .none, .none, .none, .bool false, .none] } C none := ⟨k1 _ _ hx, rfl, rfl, trivial⟩
    have hI : PySem.W.Looks (model P w) h1 (isInstance (.ref a) (.type "ValueError")) true := IA.type.andThen (PySem.W.looks_subIn I1.kIn SC.ve)
    have hfi := SC.init
    unfold PySem.W.ks_superIn at hfi
    rw [hcl] at hfi
    refine PySem.W.kxs_getMethod PySem.W.kxs_ValueError e1 (PySem.W.looks_opaque I1.kIn SC.tp) (fun A' Q' E' s' k' q' => wpAny_bind ((PySem.W.looks_clsIn I1.kIn hcl) A' _ E' s' k' (wpAny_pure q'))) rfl I1.kIn hfi hI (PySem.W.ks_ne I1.kIn IA hcl) rfl ?_
    have I2 : Inv (supCx CX P w K mg base N qual scope f (.ref cda) cc A outer ⟨hp0, g0, d0, t0, os0⟩ H E) [(h1.objs.size, PySem.W.kxs_mw "ValueError.__init__" a)] (L2.start N vs) H ⟨h1.push (PySem.W.kxs_mw "ValueError.__init__" a), g0, d0, t0 + (ps.zip us).length + 1, os0⟩ :=
      (I1.kept (h' := h1.push (PySem.W.kxs_mw "ValueError.__init__" a)) (t' := t0 + (ps.zip us).length + 1) fun b u e => Heap.get?_push_of_some _ e).pins_of fun p hp => by
        rw [List.mem_singleton] at hp
        subst hp
        exact ⟨Heap.get?_push_size _ rfl, I1.hok.fresh (Nat.le_refl _), Nat.ne_of_gt I1.lt, I1.nofs (Nat.le_refl _), fun v z => nomatch z⟩
    rw [hst]
    refine PySem.W.kxs_callWith (i := "ValueError.__init__") (x := a) rfl (PySem.Calls.evalArgs_plain ?_)
    refine PySem.Calls.spliced_cons (thn (he.run _ _ (L2.start N vs) H _ I2 hq) fun v s2 ⟨x2, H2, I3, rx, ea2, q2⟩ => PySem.Calls.spliced_nil ⟨(I3.pin _ (List.mem_append_right _ List.mem_cons_self)).1, ?_⟩)
    obtain ⟨t2, hx2⟩ := exo_at I3.hok ea2
    have hu2 := (I3.pin _ (List.mem_append_right _ List.mem_cons_self)).1
    have hC2 := I3.kIn _ _ hC
    obtain ⟨hp2, g2, d2, tk2, os2⟩ := s2
    refine wpAny_call (codeAny_of_tree ?_); show wpAny _ (Around.in1 _) (callAny (.ref h1.objs.size) ⟨[v], []⟩) _ _ _
    simp only [callAny]
    refine wpAny_bind (wpAny_load hu2 ?_)
    simp only [PySem.W.kxs_mw, show (Value.type "method-wrapper" == Value.type "method" || Value.type "method-wrapper" == Value.type "builtin_function_or_method" || Value.type "method-wrapper" == Value.type "method-wrapper") = true by decide, if_true]
    refine' PySem.W.KFB.if_so ?hcc ?_
    · decide
    refine (wpAny_bind (PySem.W.check_bound_init F.excBase_ValueError.toExcCallFacts hC2 hx2 rfl (wpAny_bind (wpAny_pure (wpAny_pure ?_)))))
    refine ⟨plainId_quiet F.excBase_ValueError.init.plain _, codeAny_builtin F.excBase_ValueError.initEntry ?_⟩
    refine PySem.W.exc_init_tree (cls := .ref C) (t0 := t2) (dv := none) (c2 := .none) (c3 := .none) (b4 := .bool false) hx2 (by rw [sizeLine_eq]; simp) fun h3 k3 e3 _ => ?_
    have J := I3.write (t' := tk2) (x := a) (e := a) (o := exo a C none) (h' := h3) (by rw [ea2]; exact True.intro) (.inl rfl) k3 ⟨_, e3⟩ (exo_ok e3)
    have eu2 : upd H2 a (exo a C none) = H2 := by
      funext b
      by_cases hb : b = a
      · rw [hb, upd_same, ea2]
      · rw [upd_ne hb]
    rw [eu2] at J
    exact PySem.wpAt_of_wpAny (ht.run [] _ _ H2 _ (Inv.nopins J fun p hp => absurd hp (by simp)) q2)
  · have fin : ∀ {σ' : L2.St} {H' : Hp} {v : V} {u : Value}, Inv (supCx CX P w K mg base N qual scope f (.ref cda) cc A outer ⟨hp0, g0, d0, t0, os0⟩ H E) [] σ' H' s' → RelV v u → Q v H' → CE outer P w H ⟨hp0, g0, d0, t0, os0⟩ Q u s' := fun {σ' H' v u} J rv q => ⟨v, H', J.os, J.bare, J.base, J.hok, rv, q⟩
    cases fl with
    | ret u =>
      obtain ⟨v, σ', H', J, rv, q⟩ := hs
      exact fin J rv q
    | next =>
      obtain ⟨σ', H', J, q⟩ := hs
      exact fin (v := V.non) (u := Value.none) J rfl q
    | brk =>
      obtain ⟨_, _, _, q⟩ := hs
      exact q.elim
    | cont =>
      obtain ⟨_, _, _, q⟩ := hs
      exact q.elim
end
end Dn

set_option maxHeartbeats 1000000
/-! raise C(e, ..), C an own class with fields -/
namespace Dn
open PySem PySem.Spec PyProof.Rows L2
def clsInit : Stmt → Stmt
  | .ClassDef _ _ _ (b :: _) _ _ _ _ _ _ _ => b
  | s => s
/-- the text's own error class of number n; its __init__ is st -/
structure ErrRaw (P : Program) (K : PySem.W.Frag) (mg : Str → Option Value) (ex : Nat → Value) (x : Str) (n : Nat) (st : Stmt) (qual : Str) (fs : List Str) : Prop where
  e : ∃ (C fI cc cda : Addr) (oc kV doc pm ct cl : Value) (od an cld : Option Addr) (osl csl : Array (Option Value)), mg x = some (.ref C) ∧ ex n = .ref C ∧ SupC K C C ∧ XfC K C ∧ PySem.W.findIn K (.ref C) "__init__" = some (some (.ref fI)) ∧
    PySem.W.typeIn K (.ref fI) = some (.type "function") ∧ K.lookup fI = some ⟨oc, od, .func (PySem.W.ksFn "__init__" qual (defArgs st) (defBody st) (defScope st) .none kV doc pm an (.ref cda) ct cc), osl⟩ ∧
    K.lookup cc = some ⟨cl, cld, .cell (some (.ref C)), csl⟩ ∧ PySem.W.codeIn K (.ref cda) qual = true ∧ SupF P K mg cda ∧ PySem.W.exmOne K (.ref C) (.ref C) = some true ∧ ∀ f ∈ fs, PySem.W.findIn K (.ref C) f = some none
/-- .. its calls -/
structure ErrAt (P : Program) (w : World) (K : PySem.W.Frag) (mg : Str → Option Value) (base : Heap) (ex : Nat → Value) (x : Str) (n k : Nat) (fs : List Str) (sp : Addr → Sp) : Prop where
  e : ∃ (C fI : Addr) (fd : FuncData) (ps : List Str), mg x = some (.ref C) ∧ ex n = .ref C ∧ OexC K C ∧ XfC K C ∧ PySem.W.findIn K (.ref C) "__init__" = some (some (.ref fI)) ∧ PySem.W.typeIn K (.ref fI) = some (.type "function") ∧
    FnOk P w K mg base (L2N.CX P w) k fI fd ps (sp C) ∧ Binds K fd ps [] ∧ PySem.W.exmOne K (.ref C) (.ref C) = some true ∧ ∀ f ∈ fs, PySem.W.findIn K (.ref C) f = some none
def smallI (i : Int) : Bool := decide (0 ≤ i) && decide (i < 100)
/-- __init__(self, x, y): two small numbers kept -/
def spE2 (f1 f2 : Str) (C : Addr) : Sp := fun vs H Q _ => ∃ a i j, vs = [.ref a, .int i, .int j] ∧ smallI i = true ∧ smallI j = true ∧ H a = some (exo a C none) ∧
  ∀ H' dx, Same H H' → H' dx = none → dx ≠ a → H' a = some (exo a C none) → Q .non (upd (upd (upd H' dx (exd dx [(f1, .int i)])) a (exo a C (some dx))) dx (exd dx [(f2, .int j), (f1, .int i)]))
/-- __init__(self, x): a text kept -/
def spE1 (f1 : Str) (C : Addr) : Sp := fun vs H Q _ => ∃ a x, vs = [.ref a, .str x] ∧ x.length ≤ 100 ∧ H a = some (exo a C none) ∧
  ∀ H' dx, Same H H' → H' dx = none → dx ≠ a → H' a = some (exo a C none) → Q .non (upd (upd H' dx (exd dx [(f1, .str x)])) a (exo a C (some dx)))
theorem joinM_ok {ρ : Sto} : ∀ (gs : List (M D)) (acc : Str), (∀ g ∈ gs, ∃ y : Str, g ρ = some (.ok (.str y) ρ) ∧ y.length ≤ 100) → acc.length + 100 * gs.length ≤ 100000 → ∃ y : Str, joinM gs acc ρ = some (.ok (.str y) ρ)
  | [], acc, _, _ => ⟨acc, rfl⟩
  | g :: gs, acc, h, hl => by
    obtain ⟨y, e, hy⟩ := h g List.mem_cons_self
    rw [List.length_cons] at hl
    have hlen : (acc ++ y).length = acc.length + y.length := PySem.Str.length_append acc y
    obtain ⟨z, ez⟩ := joinM_ok gs (acc ++ y) (fun g' hg => h g' (List.mem_cons_of_mem _ hg)) (by omega)
    refine ⟨z, ?_⟩
    unfold joinM M.bind
    rw [e]
    simp only
    rw [if_pos (by omega), ez]
theorem small_txt : ∀ n : Nat, n < 100 → (toString (n : Int) : Str).length ≤ 100 := by decide +kernel
theorem strI_small {i : Int} (h : smallI i = true) : ∃ y : Str, strI i = some (.str y) ∧ y.length ≤ 100 := by
  unfold smallI at h
  rw [Bool.and_eq_true, decide_eq_true_eq, decide_eq_true_eq] at h
  obtain ⟨n, rfl⟩ := Int.eq_ofNat_of_zero_le h.1
  have hn : n < 100 := by omega
  refine ⟨toString (n : Int), ?_, small_txt n hn⟩
  unfold strI
  rw [if_pos (by show n < 1000000; omega)]
theorem fmt_int {ρ : Sto} {k : Nat} {i : Int} (h : smallI i = true) (e : ρ[k]? = some (.val (.int i))) : ∃ y : Str, un1 fmtD (rd k) ρ = some (.ok (.str y) ρ) ∧ y.length ≤ 100 := by
  obtain ⟨y, e1, e2⟩ := strI_small h
  refine ⟨y, ?_, e2⟩
  unfold un1 M.bind rd M.lift
  rw [e]
  simp only [fmtD, e1, Option.map]
theorem fmt_str {ρ : Sto} {k : Nat} {x : Str} (h : x.length ≤ 100) (e : ρ[k]? = some (.val (.str x))) : ∃ y : Str, un1 fmtD (rd k) ρ = some (.ok (.str y) ρ) ∧ y.length ≤ 100 := by
  refine ⟨x, ?_, h⟩
  unfold un1 M.bind rd M.lift
  rw [e]
  simp only [fmtD, Option.map]
  rw [if_pos (by omega)]
theorem sup_rep2 {K : PySem.W.Frag} {H : Hp} {a : Addr} {i j : Int} {ex : Nat → Value} : Rep ⟨K, fun _ => none, H, [], ex⟩ (fun _ => none) H [.emp, .val (.int i), .val (.int j)] [some (.ref a), some (.int i), some (.int j)] [] where
  sub := fun _ _ z => nomatch z
  base := Same.refl _
  newF := fun _ z => absurd rfl z
  keep := fun _ _ _ z => z
  alive := fun _ z => z
  len := rfl
  slot := fun n s h => by
    match n, h with
    | 0, h => cases h; exact ⟨_, rfl, trivial⟩
    | 1, h => cases h; exact ⟨_, rfl, _, rfl, .int i⟩
    | 2, h => cases h; exact ⟨_, rfl, _, rfl, .int j⟩
    | n + 3, h => cases h
  apart := fun n m s t _ h _ hs => by
    match n, h with
    | 0, h => cases h; cases hs
    | 1, h => cases h; cases hs
    | 2, h => cases h; cases hs
    | n + 3, h => cases h
  tmp := fun _ z => nomatch z
  tnd := List.nodup_nil
theorem sup_rep1 {K : PySem.W.Frag} {H : Hp} {a : Addr} {x : Str} {ex : Nat → Value} : Rep ⟨K, fun _ => none, H, [], ex⟩ (fun _ => none) H [.emp, .val (.str x)] [some (.ref a), some (.str x)] [] where
  sub := fun _ _ z => nomatch z
  base := Same.refl _
  newF := fun _ z => absurd rfl z
  keep := fun _ _ _ z => z
  alive := fun _ z => z
  len := rfl
  slot := fun n s h => by
    match n, h with
    | 0, h => cases h; exact ⟨_, rfl, trivial⟩
    | 1, h => cases h; exact ⟨_, rfl, _, rfl, .str x⟩
    | n + 2, h => cases h
  apart := fun n m s t _ h _ hs => by
    match n, h with
    | 0, h => cases h; cases hs
    | 1, h => cases h; cases hs
    | n + 2, h => cases h
  tmp := fun _ z => nomatch z
  tnd := List.nodup_nil
section
variable {P : Program} {w : World} {K : PySem.W.Frag} {mg : Str → Option Value} {base : Heap} {ex : Nat → Value} {x qual a0 a1 a2 f1 f2 : Str} {n : Nat} {st : Stmt} {p0 p1 p2 p3 p4 pj q1 q2 q3 q4 r1 r2 r3 r4 : Pos} {v1 v2 : Expr} {vr : List Expr} {gs : List (M D)} {ar : Arg}
abbrev supCall (p0 p1 p2 p3 p4 pj : Pos) (v1 v2 : Expr) (vr : List Expr) : Stmt := .Expr (.Call (.Attribute (.Call (.Name "super" p0) [] [] p1) "__init__" p2) [.JoinedStr (v1 :: v2 :: vr) pj] [] p3) p4
theorem err2 (D : ErrRaw P K mg ex x n st qual [f1, f2])
    (hb : defBody st = [supCall p0 p1 p2 p3 p4 pj v1 v2 vr, .Assign [.Attribute (.Name a0 q1) f1 q2] (.Name a1 q3) q4, .Assign [.Attribute (.Name a0 r1) f2 r2] (.Name a2 r3) r4])
    (S : SupScope [a0, a1, a2] [a0, a1, a2] (defScope st)) (hp : ((defArgs st).posonlyargs ++ (defArgs st).args).head? = some ar) (h0 : ar.arg = a0)
    (hJ : ∀ (f cda cc : Addr) (A : Around) (outer : List Env) (s : Shared) (H : Hp) (E : XK) (G : Gx) (W : WX), PJs (supCx (L2N.CX P w) P w K mg base [a0, a1, a2] qual (defScope st) f (.ref cda) cc A outer s H E) G W (v1 :: v2 :: vr) gs)
    (hg : ∀ i j : Int, smallI i = true → smallI j = true → ∀ g ∈ gs, ∃ y : Str, g [.emp, .val (.int i), .val (.int j)] = some (.ok (.str y) [.emp, .val (.int i), .val (.int j)]) ∧ y.length ≤ 100) (hgl : gs.length ≤ 1000)
    (hbi : ∀ (kV doc pm ct : Value) (an : Option Addr) (cda cc : Addr) (us : List Value), us.length = 3 → bindArgs (PySem.W.ksFn "__init__" qual (defArgs st) (defBody st) (defScope st) .none kV doc pm an (.ref cda) ct cc) ⟨us, []⟩ = pure ([a0, a1, a2].zip us))
    {pl : Env → Sem Bool} (hme : ∀ (env : Env), eval (.Call (.Attribute (.Call (.Name "super" p0) [] [] p1) "__init__" p2) [.JoinedStr (v1 :: v2 :: vr) pj] [] p3) env = (do
      let ov ← attributeBase (.Call (.Name "super" p0) [] [] p1) "__init__" env (eval (.Call (.Name "super" p0) [] [] p1) env)
      standAt p2.atName
      let (f, first) ← holding [ov] (getMethod ov "__init__" (pl env))
      callWith p3 f first (backTo p3 (starEach [.JoinedStr (v1 :: v2 :: vr) pj] env)) []))
    (hne : (f1 == f2) = false) (hd0 : (a0 == ("__debug__" : Str)) = false) (hd1 : (a1 == ("__debug__" : Str)) = false) (hd2 : (a2 == ("__debug__" : Str)) = false)
    (hc0 : (a0 == ("__classdict__" : Str)) = false) (hc1 : (a1 == ("__classdict__" : Str)) = false) (hc2 : (a2 == ("__classdict__" : Str)) = false) : ErrAt P w K mg base ex x n 1 [f1, f2] (spE2 f1 f2) := by
  obtain ⟨C, fI, cc, cda, oc, kV, doc, pm, ct, cl, od, an, cld, osl, csl, h1, h2, h3, h4, h5, h6, h7, h8, h9, h10, h11, h12⟩ := D.e
  refine ⟨C, fI, _, [a0, a1, a2], h1, h2, h3.oex, h4, h5, h6, ?_, Binds.all (hbi kV doc pm ct an cda cc), h11, h12⟩
  rw [hb] at h7 ⊢
  refine fn_sup (k := 0) h7 h8 h9 S h10 hp (by rw [h0]; rfl) (fun vs H Q E ⟨a, i, j, e, _⟩ => by rw [e]; rfl) (fun A outer s H vs Q E hr ⟨a, i, j, ev, hi, hj, ea, q⟩ => ?_) (hme := hme) (hk := S.kind) (hco := S.co) (hgen := S.gen)
  subst ev
  have hN : (supCx (L2N.CX P w) P w K mg base [a0, a1, a2] qual (defScope st) fI (.ref cda) cc A outer s H E).N = [a0, a1, a2] := rfl
  refine ⟨tI ⟨K, fun _ => none, H, [], ex⟩ (fun _ _ _ _ => False) (joinM gs Str.empty), _, a, C, [.int i, .int j], ei_joined (hJ _ _ _ _ _ _ _ _ _ _),
    pss_cons (ps_ost (pe_var (i := 0) rfl (.inl (S.par a0 (by simp))) hd0 hc0) (pe_var (i := 1) rfl (.inl (S.par a1 (by simp))) hd1 hc1)) (pss_one (ps_ost (pe_var (i := 0) rfl (.inl (S.par a0 (by simp))) hd0 hc0) (pe_var (i := 2) rfl (.inl (S.par a2 (by simp))) hd2 hc2))), rfl, h3, ea, ?_⟩
  refine ⟨fun _ => none, [.emp, .val (.int i), .val (.int j)], [], sup_rep2, ?_⟩
  obtain ⟨y, ey⟩ := joinM_ok gs Str.empty (hg i j hi hj) (by show 0 + _ ≤ _; omega)
  rw [ey]
  intro F' H' sF R v rv
  have sH : Same H H' := fun b o e => R.keep b o (fun z => nomatch z) e
  have ea' := sH _ _ ea
  have hf1 := h12 f1 (by simp)
  have hf2 := h12 f2 (by simp)
  refine ⟨ea', .int i, rfl, .ref a, rfl, a, C, rfl, h3.oex, hf1, .inl ⟨ea', fun dx hdx ne => ?_⟩⟩
  refine ⟨.int j, rfl, .ref a, rfl, a, C, rfl, h3.oex, hf2, .inr ⟨dx, [(f1, .int i)], upd_same, by rw [upd_ne ne, upd_same], by simp, ?_⟩⟩
  exact q H' dx sH hdx ne ea'
theorem err1 (D : ErrRaw P K mg ex x n st qual [f1])
    (hb : defBody st = [supCall p0 p1 p2 p3 p4 pj v1 v2 vr, .Assign [.Attribute (.Name a0 q1) f1 q2] (.Name a1 q3) q4])
    (S : SupScope [a0, a1] [a0, a1] (defScope st)) (hp : ((defArgs st).posonlyargs ++ (defArgs st).args).head? = some ar) (h0 : ar.arg = a0)
    (hJ : ∀ (f cda cc : Addr) (A : Around) (outer : List Env) (s : Shared) (H : Hp) (E : XK) (G : Gx) (W : WX), PJs (supCx (L2N.CX P w) P w K mg base [a0, a1] qual (defScope st) f (.ref cda) cc A outer s H E) G W (v1 :: v2 :: vr) gs)
    (hg : ∀ i : Str, i.length ≤ 100 → ∀ g ∈ gs, ∃ y : Str, g [.emp, .val (.str i)] = some (.ok (.str y) [.emp, .val (.str i)]) ∧ y.length ≤ 100) (hgl : gs.length ≤ 1000)
    (hbi : ∀ (kV doc pm ct : Value) (an : Option Addr) (cda cc : Addr) (us : List Value), us.length = 2 → bindArgs (PySem.W.ksFn "__init__" qual (defArgs st) (defBody st) (defScope st) .none kV doc pm an (.ref cda) ct cc) ⟨us, []⟩ = pure ([a0, a1].zip us))
    {pl : Env → Sem Bool} (hme : ∀ (env : Env), eval (.Call (.Attribute (.Call (.Name "super" p0) [] [] p1) "__init__" p2) [.JoinedStr (v1 :: v2 :: vr) pj] [] p3) env = (do
      let ov ← attributeBase (.Call (.Name "super" p0) [] [] p1) "__init__" env (eval (.Call (.Name "super" p0) [] [] p1) env)
      standAt p2.atName
      let (f, first) ← holding [ov] (getMethod ov "__init__" (pl env))
      callWith p3 f first (backTo p3 (starEach [.JoinedStr (v1 :: v2 :: vr) pj] env)) []))
    (hd0 : (a0 == ("__debug__" : Str)) = false) (hd1 : (a1 == ("__debug__" : Str)) = false)
    (hc0 : (a0 == ("__classdict__" : Str)) = false) (hc1 : (a1 == ("__classdict__" : Str)) = false) : ErrAt P w K mg base ex x n 1 [f1] (spE1 f1) := by
  obtain ⟨C, fI, cc, cda, oc, kV, doc, pm, ct, cl, od, an, cld, osl, csl, h1, h2, h3, h4, h5, h6, h7, h8, h9, h10, h11, h12⟩ := D.e
  refine ⟨C, fI, _, [a0, a1], h1, h2, h3.oex, h4, h5, h6, ?_, Binds.all (hbi kV doc pm ct an cda cc), h11, h12⟩
  rw [hb] at h7 ⊢
  refine fn_sup (k := 0) h7 h8 h9 S h10 hp (by rw [h0]; rfl) (fun vs H Q E ⟨a, i, e, _⟩ => by rw [e]; rfl) (fun A outer s H vs Q E hr ⟨a, i, ev, hi, ea, q⟩ => ?_) (hme := hme) (hk := S.kind) (hco := S.co) (hgen := S.gen)
  subst ev
  refine ⟨tI ⟨K, fun _ => none, H, [], ex⟩ (fun _ _ _ _ => False) (joinM gs Str.empty), _, a, C, [.str i], ei_joined (hJ _ _ _ _ _ _ _ _ _ _),
    pss_one (ps_ost (pe_var (i := 0) rfl (.inl (S.par a0 (by simp))) hd0 hc0) (pe_var (i := 1) rfl (.inl (S.par a1 (by simp))) hd1 hc1)), rfl, h3, ea, ?_⟩
  refine ⟨fun _ => none, [.emp, .val (.str i)], [], sup_rep1, ?_⟩
  obtain ⟨y, ey⟩ := joinM_ok gs Str.empty (hg i hi) (by show 0 + _ ≤ _; omega)
  rw [ey]
  intro F' H' sF R v rv
  have sH : Same H H' := fun b o e => R.keep b o (fun z => nomatch z) e
  have ea' := sH _ _ ea
  exact ⟨ea', .str i, rfl, .ref a, rfl, a, C, rfl, h3.oex, h12 f1 (by simp), .inl ⟨ea', fun dx hdx ne => q H' dx sH hdx ne ea'⟩⟩
end
end Dn

set_option maxHeartbeats 2000000
/-! raising what has fields; several clauses with names; a field read in the suite -/
namespace Dn
open PySem PySem.Spec PyProof.Rows L2
section
variable {X : Cx} {W : WX} {G : Gx} {k : Nat} {x y : Str} {e e1 e2 : Expr} {es : List Expr} {ta : TA} {p p3 pos : Pos} {C fI : Addr} {fd : FuncData} {ps : List Str} {sp : Sp}
/-- C(e, ..) with nothing handled: the error made has no context -/
theorem pmk_err {j : Nat} (T : OexC X.K C) (iC : PySem.W.findIn X.K (.ref C) "__init__" = some (some (.ref fI))) (tI : PySem.W.typeIn X.K (.ref fI) = some (.type "function"))
    (Fi : FnOk X.prog X.w X.K X.mg X.base (L2N.CX X.prog X.w) j fI fd ps sp) (room : Room (j + 1) X.A) (hb : Binds X.K fd ps []) (hx : Passes (L2N.CX X.prog X.w) X (fun _ _ _ => False)) (hg : Gl X x) (hm : X.mg x = some (.ref C)) (ha : PA X (e :: es) ta)
    (hdb : (x == ("__debug__" : Str)) = false) (he : starEach (e :: es) X.env = (false, eval e X.env) :: starEach es X.env) (hpl : (backTo pos (starEach es X.env)).any (·.1) = false) : L2N.PMk X (.Call (.Name x p) (e :: es) [] pos) (tMkO C sp [] ta) := by
  intro pins s σ H Q I h
  obtain ⟨nm, qn, Nn, bs, bm, sn, sub, ab, col, dd, z0, z1, z2, z3, z5, hC, hbm⟩ := T.cls
  refine wpAny_Call_Name_kw (ld_glob I hg hm ?_ hdb)
  refine PySem.W.callWith_K (h₀ := X.base) I.ok.mod.kin T.kC (thn (ha.run pos pins s σ H _ I h) fun us s1 ⟨vs, H1, J1, rv, hz, qq⟩ => ⟨J1.kIn, ?_⟩) he hpl
  show wpAny _ _ (call (Value.ref C) us) _ _ _
  obtain ⟨h1, g1, d1, t1, o1⟩ := s1
  have new : H1 (h1.objs.size + 1) = none := J1.hok.fresh (Nat.le_succ _)
  have hq := qq _ new
  rw [List.append_nil] at hq
  have up : ∀ b o, h1.get? b = some o → ((h1.push (PySem.W.kdv_tup us)).push (PySem.HandSPX.excO C h1.objs.size)).get? b = some o := fun b o e => Heap.get?_push_of_some _ (Heap.get?_push_of_some _ e)
  have at' : ((h1.push (PySem.W.kdv_tup us)).push (PySem.HandSPX.excO C h1.objs.size)).get? (h1.objs.size + 1) = some (PySem.HandSPX.excO C h1.objs.size) := by heap_get
  have J2 : Inv X pins σ (upd H1 (h1.objs.size + 1) (exo (h1.objs.size + 1) C none)) ⟨(h1.push (PySem.W.kdv_tup us)).push (PySem.HandSPX.excO C h1.objs.size), g1, d1, t1, o1⟩ := J1.laid (t' := t1) up (Nat.le_succ _) (exo_ok at')
  have r2 : Vals (V.ref (h1.objs.size + 1) :: vs) (Value.ref (h1.objs.size + 1) :: us) := .cons rfl rv
  have len2 : (Value.ref (h1.objs.size + 1) :: us ++ []).length = ps.length := by
    have e := r2.length
    rw [Fi.len _ _ _ _ hq] at e
    rw [List.append_nil, ← e]
  have lenu : us.length ≤ sizeLine := by
    rw [← Paired.length rv, sizeLine_eq]
    omega
  have bd := hb _ (Value.ref (h1.objs.size + 1) :: us) J2.kIn len2
  rw [List.append_nil] at bd
  refine wpAny_call (PySem.HandSPX.call_own F.excBase_ValueError (fun Y => PySem.HandSPX.refsVE_contains Y bm hbm) (J1.kIn _ _ hC) (PySem.W.looks_findIn J1.kIn iC) (fun self => PySem.W.bind_fn J1.kIn self tI) lenu
    (codeAny_mono (Fi.run _ X.stack _ _ ⟨Value.ref (h1.objs.size + 1) :: us, []⟩ (Value.ref (h1.objs.size + 1) :: us) _ _ (fun _ _ _ => False) (room.make C us []) (J2.env0.make C us []) bd r2 hq) fun r s' out => ?_))
  match r, out with
  | .error er, out => exact hx pins σ _ _ er s' J2 out
  | .ok (.ret u), ⟨v, H2, os2, bare2, un2, hok2, rv2, ev, d, fs, ea, ed, nd, q2⟩ =>
    subst ev
    obtain ⟨h2, g2, d2, t2, o2⟩ := s'
    obtain ⟨t0, Gh, K1, kG, ge, hoe, na⟩ := mk_end0 (d2 := d2) (t2 := t2) J1 (Nat.le_succ _) up un2 hok2 os2 bare2 ea ed nd
    exact ⟨rv2, h1.objs.size + 1, _, _, ⟨Gh, g2, d2, t2, o2⟩, _, .ref C, some d, rfl, K1, kG, ge, hoe, ⟨rfl, rfl, fun vs hv => by cases hv; rfl⟩, rfl, rfl, na, rfl, bare2, raises_own T.exC T.tyC, q2⟩
  | .ok .next, out => exact out.elim
  | .ok .brk, out => exact out.elim
  | .ok .cont, out => exact out.elim
/-- what is left when the error is let go -/
theorem ext_end {F H1 H2 : Hp} {a d : Addr} {fs : List (Str × V)} (sub : Same F H1) (na : H1 a = none) (nd : H1 d = none) (k : ∀ b o, b ≠ a → b ≠ d → H1 b = some o → H2 b = some o) : Ext F H1 F (upd (del H2 a) d (.xd fs)) := by
  have key : Same H1 (upd (del H2 a) d (.xd fs)) := fun b o e => by
    have n1 : b ≠ a := ne_of_none e na
    have n2 : b ≠ d := ne_of_none e nd
    rw [upd_ne n2, del_ne n1]
    exact k b o n1 n2 e
  exact ⟨Same.refl F, key, sub.trans key, fun b z1 z2 => absurd z2 z1⟩
def raise2 (n : Nat) (f1 f2 : Str) (fs : M (List D)) : M Out := M.bind fs fun ds => match ds with
  | [.int i, .int j] => if smallI i && smallI j then M.raise ⟨n, [(f2, .int j), (f1, .int i)]⟩ else fun _ => none
  | _ => fun _ => none
def raise1 (n : Nat) (f1 : Str) (fs : M (List D)) : M Out := M.bind fs fun ds => match ds with
  | [.str i] => if i.length ≤ 100 then M.raise ⟨n, [(f1, .str i)]⟩ else fun _ => none
  | _ => fun _ => none
theorem no_pass {X : Cx} {W : WX} (tk : L2N.Takes X W) : Passes (L2N.CX X.prog X.w) X (fun _ _ _ => False) := fun pins σ H s e s' I c => L2N.passes_call tk (fun _ _ _ _ z => z.elim) pins σ H s e s' I c
theorem es_raise2 {n j : Nat} {f1 f2 : Str} {ex : Nat → Value} {fs : M (List D)} (c : Kx true X G W k) (Er : ErrAt X.prog X.w X.K X.mg X.base ex x n j [f1, f2] (spE2 f1 f2)) (hex : G.ex = ex) (ha : PA X [e1, e2] (tA G W fs)) (hj : j + 1 ≤ k := by decide) (hg : Gl X x := by rfl)
    (hdb : (x == ("__debug__" : Str)) = false := by decide) (he : starEach [e1, e2] X.env = (false, eval e1 X.env) :: starEach [e2] X.env := by rfl) (hpl : (backTo p3 (starEach [e2] X.env)).any (·.1) = false := by rfl) :
    PS X (.Raise (some (.Call (.Name x p) [e1, e2] [] p3)) none pos) (tS G W (raise2 n f1 f2 fs)) := by
  obtain ⟨C, fI, fd, ps, h1, h2, h3, h4, h5, h6, h7, h8, h9, h10⟩ := Er.e
  refine PS.imp (L2N.ps_raise (c.calm rfl) c.tk (pmk_err h3 h5 h6 h7 ((c.hr rfl).mono hj) h8 (no_pass c.tk) hg h1 ha hdb he hpl)) fun E σ H ⟨F, ρ, τ, R, q⟩ => ⟨F, ρ, τ, R, (FinS.bind q).imp fun ds ρ1 F1 H1 s1 R1 q1 vs rvs => ?_⟩
  have go : ∀ i j : Int, ds = [.int i, .int j] → vs.length ≤ 1000 ∧ ∀ a, H1 a = none → spE2 f1 f2 C (.ref a :: (vs ++ [])) (upd H1 a (exo a C none))
      (fun v H2 => v = .non ∧ ∃ (d : Addr) (fs : List (Str × V)), H2 a = some (exo a C (some d)) ∧ H2 d = some (exd d fs) ∧ H1 d = none ∧ W (.ref C) (some d) σ (upd (del H2 a) d (.xd fs))) (fun _ _ _ => False) := by
    intro i j ed
    subst ed
    have q1 : FinS G W F1 τ E ((if smallI i && smallI j then M.raise ⟨n, [(f2, .int j), (f1, .int i)]⟩ else fun _ => none : M Out) ρ1) := q1
    cases hs : (smallI i && smallI j) with
    | false => rw [hs] at q1; exact q1.elim
    | true =>
      rw [hs] at q1
      rw [Bool.and_eq_true] at hs
      obtain ⟨v1, v2, rfl⟩ : ∃ v1 v2, vs = [v1, v2] := by
        cases rvs with
        | cons _ r2 =>
          cases r2 with
          | cons _ r3 =>
            cases r3
            exact ⟨_, _, rfl⟩
      have ev1 : v1 = .int i := by cases rvs with | cons r _ => cases r; rfl
      have ev2 : v2 = .int j := by cases rvs with | cons _ r2 => cases r2 with | cons r _ => cases r; rfl
      subst ev1
      subst ev2
      refine ⟨by simp, fun a na => ⟨a, i, j, rfl, hs.1, hs.2, upd_same, fun H' dx sH nd ne ea => ⟨rfl, dx, [(f2, .int j), (f1, .int i)], ?_, upd_same, ?_, ?_⟩⟩⟩
      · rw [upd_ne (Ne.symm ne), upd_same]
      · cases z : H1 dx with
        | none => rfl
        | some o =>
          have z2 := sH dx o (by rw [upd_ne ne]; exact z)
          rw [nd] at z2
          cases z2
      · have nd1 : H1 dx = none := by
          cases z : H1 dx with
          | none => rfl
          | some o =>
            have z2 := sH dx o (by rw [upd_ne ne]; exact z)
            rw [nd] at z2
            cases z2
        have R2 := R1.ext (ext_end (fs := [(f2, .int j), (f1, .int i)]) (H2 := upd (upd (upd H' dx (exd dx [(f1, .int i)])) a (exo a C (some dx))) dx (exd dx [(f2, .int j), (f1, .int i)])) R1.sub na nd1 fun b o n1 n2 eb => by
          rw [upd_ne n2, upd_ne n1, upd_ne n2]
          exact sH b o (by rw [upd_ne n1]; exact eb))
        refine q1 F1 _ σ (.ref C) (some dx) (Same.refl _) R2 ⟨by rw [hex]; exact h2.symm, .inr ⟨dx, _, rfl, upd_same, rfl, .cons (.int j) (.cons (.int i) .nil)⟩⟩
  match ds, q1, go with
  | [.int i, .int j], _, go => exact go i j rfl
  | [], q1, _ => exact q1.elim
  | [.non], q1, _ => exact q1.elim
  | .non :: _ :: _, q1, _ => exact q1.elim
  | .bl _ :: _, q1, _ => exact q1.elim
  | .str _ :: _, q1, _ => exact q1.elim
  | .tup _ :: _, q1, _ => exact q1.elim
  | .lst _ :: _, q1, _ => exact q1.elim
  | .dic _ _ _ :: _, q1, _ => exact q1.elim
  | .scr _ :: _, q1, _ => exact q1.elim
  | [.int _], q1, _ => exact q1.elim
  | .int _ :: .int _ :: _ :: _, q1, _ => exact q1.elim
  | .int _ :: .non :: _, q1, _ => exact q1.elim
  | .int _ :: .bl _ :: _, q1, _ => exact q1.elim
  | .int _ :: .str _ :: _, q1, _ => exact q1.elim
  | .int _ :: .tup _ :: _, q1, _ => exact q1.elim
  | .int _ :: .lst _ :: _, q1, _ => exact q1.elim
  | .int _ :: .dic _ _ _ :: _, q1, _ => exact q1.elim
  | .int _ :: .scr _ :: _, q1, _ => exact q1.elim
theorem es_raise1 {n j : Nat} {f1 : Str} {ex : Nat → Value} {fs : M (List D)} (c : Kx true X G W k) (Er : ErrAt X.prog X.w X.K X.mg X.base ex x n j [f1] (spE1 f1)) (hex : G.ex = ex) (ha : PA X [e1] (tA G W fs)) (hj : j + 1 ≤ k := by decide) (hg : Gl X x := by rfl)
    (hdb : (x == ("__debug__" : Str)) = false := by decide) (he : starEach [e1] X.env = (false, eval e1 X.env) :: starEach [] X.env := by rfl) (hpl : (backTo p3 (starEach [] X.env)).any (·.1) = false := by rfl) :
    PS X (.Raise (some (.Call (.Name x p) [e1] [] p3)) none pos) (tS G W (raise1 n f1 fs)) := by
  obtain ⟨C, fI, fd, ps, h1, h2, h3, h4, h5, h6, h7, h8, h9, h10⟩ := Er.e
  refine PS.imp (L2N.ps_raise (c.calm rfl) c.tk (pmk_err h3 h5 h6 h7 ((c.hr rfl).mono hj) h8 (no_pass c.tk) hg h1 ha hdb he hpl)) fun E σ H ⟨F, ρ, τ, R, q⟩ => ⟨F, ρ, τ, R, (FinS.bind q).imp fun ds ρ1 F1 H1 s1 R1 q1 vs rvs => ?_⟩
  have go : ∀ i : Str, ds = [.str i] → vs.length ≤ 1000 ∧ ∀ a, H1 a = none → spE1 f1 C (.ref a :: (vs ++ [])) (upd H1 a (exo a C none))
      (fun v H2 => v = .non ∧ ∃ (d : Addr) (fs : List (Str × V)), H2 a = some (exo a C (some d)) ∧ H2 d = some (exd d fs) ∧ H1 d = none ∧ W (.ref C) (some d) σ (upd (del H2 a) d (.xd fs))) (fun _ _ _ => False) := by
    intro i ed
    subst ed
    have q1 : FinS G W F1 τ E ((if i.length ≤ 100 then M.raise ⟨n, [(f1, .str i)]⟩ else fun _ => none : M Out) ρ1) := q1
    by_cases hs : i.length ≤ 100
    · rw [if_pos hs] at q1
      obtain ⟨v1, rfl⟩ : ∃ v1, vs = [v1] := by
        cases rvs with
        | cons _ r2 =>
          cases r2
          exact ⟨_, rfl⟩
      have ev1 : v1 = .str i := by cases rvs with | cons r _ => cases r; rfl
      subst ev1
      refine ⟨by simp, fun a na => ⟨a, i, rfl, hs, upd_same, fun H' dx sH nd ne ea => ?_⟩⟩
      have nd1 : H1 dx = none := by
        cases z : H1 dx with
        | none => rfl
        | some o =>
          have z2 := sH dx o (by rw [upd_ne ne]; exact z)
          rw [nd] at z2
          cases z2
      refine ⟨rfl, dx, [(f1, .str i)], upd_same, by rw [upd_ne ne, upd_same], nd1, ?_⟩
      have R2 := R1.ext (ext_end (fs := [(f1, .str i)]) (H2 := upd (upd H' dx (exd dx [(f1, .str i)])) a (exo a C (some dx))) R1.sub na nd1 fun b o n1 n2 eb => by
        rw [upd_ne n1, upd_ne n2]
        exact sH b o (by rw [upd_ne n1]; exact eb))
      exact q1 F1 _ σ (.ref C) (some dx) (Same.refl _) R2 ⟨by rw [hex]; exact h2.symm, .inr ⟨dx, _, rfl, upd_same, rfl, .cons (.str i) .nil⟩⟩
    · rw [if_neg hs] at q1
      exact q1.elim
  match ds, q1, go with
  | [.str i], _, go => exact go i rfl
  | [], q1, _ => exact q1.elim
  | .non :: _, q1, _ => exact q1.elim
  | .bl _ :: _, q1, _ => exact q1.elim
  | .int _ :: _, q1, _ => exact q1.elim
  | .str _ :: _ :: _, q1, _ => exact q1.elim
  | .tup _ :: _, q1, _ => exact q1.elim
  | .lst _ :: _, q1, _ => exact q1.elim
  | .dic _ _ _ :: _, q1, _ => exact q1.elim
  | .scr _ :: _, q1, _ => exact q1.elim
end
end Dn

set_option maxHeartbeats 2000000
/-! several clauses with names -/
namespace Dn
open PySem PySem.Spec PyProof.Rows L2
abbrev ClauseT := Addr → Value → Option Addr → TS
/-- what the clauses wish, one after the other; a clause's name is the slot i's -/
def wNamed (K : PySem.W.Frag) (Wout : WX) (D : Ends) : List (Value × Nat × ClauseT) → WX
  | [] => Wout
  | (c, i, ts) :: r => fun cls d σ H => ∃ b, PySem.W.exmOne K cls c = some b ∧ (b = true → ∀ a, H a = none →
      ts a cls d { nx := fun σ' H' => D.nx (σ'.set i none) H', rt := D.rt, bk := fun σ' H' => D.bk (σ'.set i none) H', ct := fun σ' H' => D.ct (σ'.set i none) H' } (σ.set i (some (.ref a))) H) ∧ (b = false → wNamed K Wout D r cls d σ H)
inductive Named (X : Cx) : List ExceptHandler → List (Value × Nat × ClauseT) → Prop
  | nil : Named X [] []
  | cons {x n : Str} {i : Nat} {c : Value} {ts : ClauseT} {b₀ : Stmt} {suite : List Stmt} {np pos' : Pos} {hds : List ExceptHandler} {l : List (Value × Nat × ClauseT)} (hi : X.N[i]? = some n) (hln : X.env.kindOf n = some .local) (hc : Names X x c)
      (hsu : ∀ (a : Addr) (oe : Obj) (cls : Value) (d : Option Addr) (pn : List (Addr × Obj)), L2N.Zn cls d oe → (∃ vs, oe.data = .fields vs) → PSs (X.suite a ((a, oe) :: pn)) (b₀ :: suite) (ts a cls d)) (r : Named X hds l) :
      Named X (.ExceptHandler (some (.Name x np)) (some n) (b₀ :: suite) pos' :: hds) ((c, i, ts) :: l)
section
variable {X : Cx} {body : List Stmt} {h₀ : ExceptHandler} {hds : List ExceptHandler} {l : List (Value × Nat × ClauseT)} {pos : Pos} {tb : WX → TS} {Wout : WX}
theorem ps_try_named (hs : X.stack = X.env :: X.outer) (hf : X.env.frame = some X.env.locals) (hN : X.N.Nodup) (tk : L2N.Takes X Wout)
    (hb : ∀ (W : WX) (pn : List (Addr × Obj)) (xe : Value → Shared → Prop), L2N.Takes (X.tr pn xe) W → PassesOwn (model X.prog X.w) X.A X.env xe → PSs (X.tr pn xe) body (tb W))
    (hh : Named X (h₀ :: hds) l) : PS X (.Try body (h₀ :: hds) [] [] pos) (fun D σ H => tb (wNamed X.K Wout D l) D σ H) := by
  refine ⟨fun pins s σ H D Inv0 st => ?_⟩
  have okX := Inv0.ok
  have frs0 : X.A.frames = some (X.env :: X.outer) := by rw [okX.frames, hs]
  refine wpAny_Try_except (wpAny_mono ((hb (wNamed X.K Wout D l) (X.pn ++ pins) (fun e s₁ => wpAny (model X.prog X.w) X.A (noteFrame e X.env) (fun _ s₂ => wpAny (model X.prog X.w) X.A (setFlight e none) (fun _ s₃ =>
    wpAny (model X.prog X.w) X.A (handleBy e X.env (h₀ :: hds)) (SP X pins D) X.xe s₃) X.xe s₂) X.xe s₁) (fun u s' air => ?_) PassesOwn.looking).run [] s σ H D (Inv0.toTry _) st) (fun f s1 out => ?_) (fun e s1 z => z))
  · obtain ⟨a, B, sI, pins', σ', H', cls, d, rfl, Jt, nb, up, sky, na, os, ag, wish⟩ := air
    have J : Inv X pins σ' H' sI := Jt.ofTry okX
    have skyX : Sky B (X.env :: X.outer) a (L2N.Zn cls d) X.env.locals s'.heap := by rw [← hs]; exact sky
    show wpAny (model X.prog X.w) X.A (noteFrame (.ref a) X.env) _ _ _
    refine L2N.Sky.land L2N.Zn.steady frs0 hf skyX fun h3 fl3 up3 => ?_
    have J3 : Inv X pins σ' H' { s' with heap := h3 } := J.landed nb fl3.1 (up.trans up3) os ag
    obtain ⟨oe3, vs3, he3, hz3, hd3⟩ := fl3.there
    have notIn : a ∉ frs (X.env :: X.outer) := fun hm => by
      obtain ⟨_, o', e', hnf⟩ := fl3.2.2.1.mem hm
      rw [he3] at e'; cases e'
      exact hnf _ hd3
    have neL : a ≠ X.env.locals := fun z => notIn (List.mem_filterMap.mpr ⟨X.env, List.mem_cons_self, by rw [hf, z]⟩)
    have neF : a ∉ X.fs := fun hm => by
      obtain ⟨e, he, q⟩ := List.mem_filterMap.mp hm
      exact notIn (List.mem_filterMap.mpr ⟨e, List.mem_cons_of_mem _ he, q⟩)
    have S3 := J3.suite he3 hd3 na neL neF
    have go : ∀ {hds' : List ExceptHandler} {l' : List (Value × Nat × ClauseT)}, Named X hds' l' → wNamed X.K Wout D l' cls d σ' H' → wpAny (model X.prog X.w) X.A (handleBy (.ref a) X.env hds') (SP X pins D) X.xe { s' with heap := h3 } := by
      intro hds' l' hk
      induction hk with
      | nil =>
        intro w
        refine wpAny_handleBy_nil ?_
        obtain ⟨k1, k2, k3, oe, vs, T, oT, ts', he, hz, hd, h1, hr⟩ := id fl3
        unfold PySem.passOn
        refine wpAny_bind (wpAny_field he hd h1 ?_)
        rw [if_neg (show ¬ ((Value.ref T == Value.none) = true) from by simp)]
        have onward : wpAny (model X.prog X.w) X.A (setFlight (.ref a) X.env.frame) (fun _ s4 => wpAny (model X.prog X.w) X.A (throw (.ref a) : Sem Flow) (SP X pins D) X.xe s4) X.xe { s' with heap := h3 } := by
          rw [hf]
          refine HandSPX.setFlight_upZ fl3 fun h4 hh4 up4 => wpAny_throw (tk _ _ ⟨a, B, sI, pins, σ', H', cls, d, rfl, J, nb, (up.trans up3).trans up4, .inr (.inr (by rw [hs]; exact hh4)), na, os, ag, w⟩)
        first
          | exact wpAny_bind (wpAny_pure (wpAny_bind onward))
          | exact wpAny_bind onward
      | @cons x n i c ts b₀ suite np pos' hds2 l2 hi hln hc hsu r ih =>
        intro w
        obtain ⟨b, hb1, yes, no⟩ := w
        refine wpAny_handleBy_cons (codeAny_handlers_test ?_) (fun z => nomatch z)
        have LT : PySem.W.Looks (model X.prog X.w) h3 (typeOf (.ref a)) cls := fun _ _ _ _ k q => wpAny_typeOf_ref (k _ _ he3) (by rw [hz3.1]; exact q)
        have LM := PySem.W.exm_one (M := model X.prog X.w) J3.kIn LT hb1
        have test : ∀ {Q : Value → Shared → Prop} {E : Value → Shared → Prop}, Q c { s' with heap := h3 } → wpAny (model X.prog X.w) (X.A.mark (some (.ref a))) (eval (.Name x np) X.env) Q E { s' with heap := h3 } := fun {Q E} z => by
          obtain ⟨hg, hdbg, hm | ⟨hm, hv, hnn⟩⟩ := hc
          · exact ld_glob (X := X.suite a ((a, oe3) :: (X.pn ++ pins))) S3 hg hm z hdbg
          · exact ld_blt (X := X.suite a ((a, oe3) :: (X.pn ++ pins))) S3 hg hm hv z hnn hdbg
        refine test (LM.here ?_)
        cases b with
        | true =>
          refine codeAny_handlers_suite_as (HandSPX.lands_againZ fl3 fun h4 fl4 up4 => ?_)
          have J4 : Inv X pins σ' H' { s' with heap := h4 } := J.landed nb fl4.1 ((up.trans up3).trans up4) os ag
          obtain ⟨oe4, vs4, he4, hz4, hd4⟩ := fl4.there
          refine store_ok (X := X.suite a ((a, oe4) :: (X.pn ++ pins))) (v := .ref a) (J4.suite he4 hd4 na neL neF) hN hi (.inl hln) rfl (fun s5 S5 => ?_) (.inr hln)
          refine wpAny_mono ((hsu a oe4 cls d (X.pn ++ pins) hz4 ⟨_, hd4⟩).run [] s5 _ H' _ S5 (yes rfl a na)) (fun f s6 out => ?_) (fun _ _ z => z.elim)
          have done : ∀ {σ6 : L2.St} {H6 : Hp} {Q : Shared → Prop}, Inv (X.suite a ((a, oe4) :: (X.pn ++ pins))) [] σ6 H6 s6 → (∀ s7, Inv X pins (σ6.set i none) H6 s7 → Q s7) →
              wpAny (model X.prog X.w) X.A (do bindName X.env n .none; unbindBehindTheSuite X.env n pos') (fun _ s7 => Q s7) X.xe s6 := fun {σ6 H6 Q} S6 z => gone_ok (S6.unsuite okX) hN hi hln z
          match f, out with
          | .next, ⟨σ6, H6, S6, q6⟩ => exact done S6 fun s7 J7 => ⟨_, _, J7, q6⟩
          | .brk, ⟨σ6, H6, S6, q6⟩ => exact done S6 fun s7 J7 => ⟨_, _, J7, q6⟩
          | .cont, ⟨σ6, H6, S6, q6⟩ => exact done S6 fun s7 J7 => ⟨_, _, J7, q6⟩
          | .ret u, ⟨v6, σ6, H6, S6, r6, q6⟩ => exact done S6 fun s7 J7 => ⟨_, _, _, J7, r6, q6⟩
        | false =>
          show wpAny _ X.A (handleBy (.ref a) X.env hds2) _ _ _
          exact ih (no rfl)
    exact go hh wish
  · match f, out with
    | .next, ⟨σ', H', J', q⟩ => exact wpAny_execs_nil ⟨σ', H', J'.ofTry okX, q⟩
    | .brk, ⟨σ', H', J', q⟩ => exact ⟨σ', H', J'.ofTry okX, q⟩
    | .cont, ⟨σ', H', J', q⟩ => exact ⟨σ', H', J'.ofTry okX, q⟩
    | .ret u, ⟨v, σ', H', J', r, q⟩ => exact ⟨v, σ', H', J'.ofTry okX, r, q⟩
end

/-- a clause: a suite; or: return (e.f1, e.f2) -/
inductive CH where
  | h (g : M Out)
  | f2 (f1 f2 : Str)
abbrev CL := Nat × (Nat → Option Bool) × CH
def runC (i : Nat) (e : Exn) (ρ : Sto) : CH → Option (Res Out)
  | .h h => match h (ρ.set i .emp) with
    | some (.ok o ρ2) => some (.ok o (ρ2.set i .emp))
    | _ => none
  | .f2 f1 f2 => if i < ρ.length then match e.fs.lookup f1, e.fs.lookup f2 with
    | some d1, some d2 => some (.ok (.ret (.tup [d1, d2])) (ρ.set i .emp))
    | _, _ => none
    else none
def caught (e : Exn) (ρ : Sto) : List CL → Option (Res Out)
  | [] => some (.exc e ρ)
  | (i, hit, ch) :: r => match hit e.c with
    | none => none
    | some false => caught e ρ r
    | some true => runC i e ρ ch
def tryMs (g : M Out) (l : List CL) : M Out := fun ρ => match g ρ with
  | none => none
  | some (.ok o ρ') => some (.ok o ρ')
  | some (.exc e ρ') => caught e ρ' l
inductive ClsOk (X : Cx) (G : Gx) (k : Nat) : List ExceptHandler → List CL → List (Value × Nat × ClauseT) → Prop
  | nil : ClsOk X G k [] [] []
  | h {x n : Str} {i : Nat} {C : Addr} {hit : Nat → Option Bool} {g : M Out} {b₀ : Stmt} {suite : List Stmt} {np pos' : Pos} {hds : List ExceptHandler} {cl : List CL} {l : List (Value × Nat × ClauseT)} (hi : X.N[i]? = some n) (hln : X.env.kindOf n = some .local)
      (hg : Gl X x) (hdb : (x == ("__debug__" : Str)) = false) (hm : X.mg x = some (.ref C)) (hh : ∀ n b, hit n = some b → PySem.W.exmOne X.K (G.ex n) (.ref C) = some b)
      (hsu : ∀ (a : Addr) (pn : List (Addr × Obj)), Kx false (X.suite a pn) G W0 k → PSs (X.suite a pn) (b₀ :: suite) (tS G W0 g)) (r : ClsOk X G k hds cl l) :
      ClsOk X G k (.ExceptHandler (some (.Name x np)) (some n) (b₀ :: suite) pos' :: hds) ((i, hit, .h g) :: cl) ((.ref C, i, fun _ _ _ => tS G W0 g) :: l)
  | f2 {x n f1 f2 : Str} {i : Nat} {C : Addr} {hit : Nat → Option Bool} {np pos' q1 q2 q3 q4 q5 q6 : Pos} {ctx : Nat} {hds : List ExceptHandler} {cl : List CL} {l : List (Value × Nat × ClauseT)} (hi : X.N[i]? = some n) (hln : X.env.kindOf n = some .local)
      (hg : Gl X x) (hdb : (x == ("__debug__" : Str)) = false) (hm : X.mg x = some (.ref C)) (hh : ∀ n b, hit n = some b → PySem.W.exmOne X.K (G.ex n) (.ref C) = some b) (hone : ∀ n, hit n = some true → G.ex n = .ref C)
      (T : XfC X.K C) (no1 : PySem.W.findIn X.K (.ref C) f1 = some none) (no2 : PySem.W.findIn X.K (.ref C) f2 = some none)
      (hd : (n == ("__debug__" : Str)) = false) (hcd : (n == ("__classdict__" : Str)) = false) (r : ClsOk X G k hds cl l)
      (hb1 : attributeBase (.Name n q2) f1 X.env (eval (.Name n q2) X.env) = eval (.Name n q2) X.env) (hb2 : attributeBase (.Name n q4) f2 X.env (eval (.Name n q4) X.env) = eval (.Name n q4) X.env)
      (hs1 : starEach [.Attribute (.Name n q2) f1 q1, .Attribute (.Name n q4) f2 q3] X.env = (false, eval (.Attribute (.Name n q2) f1 q1) X.env) :: starEach [.Attribute (.Name n q4) f2 q3] X.env)
      (hs2 : starEach [.Attribute (.Name n q4) f2 q3] X.env = (false, eval (.Attribute (.Name n q4) f2 q3) X.env) :: starEach [] X.env) :
      ClsOk X G k (.ExceptHandler (some (.Name x np)) (some n) [.Return (some (.Tuple [.Attribute (.Name n q2) f1 q1, .Attribute (.Name n q4) f2 q3] ctx q5)) q6] pos' :: hds) ((i, hit, .f2 f1 f2) :: cl)
        ((.ref C, i, fun a cls d => tRet (tTup (tCons (tXf a cls d C f1 (tVar i)) (tCons (tXf a cls d C f2 (tVar i)) tNil)))) :: l)
section
variable {X : Cx} {G : Gx} {W : WX} {k : Nat} {pos : Pos} {g : M Out} {body : List Stmt}
theorem lookup_rel {K : PySem.W.Frag} {F : Hp} {f : Str} {d : D} : ∀ {fs : List (Str × V)} {es : List (Str × D)}, fs.map (·.1) = es.map (·.1) → RpA K F (fs.map (·.2)) (es.map (·.2)) → es.lookup f = some d → ∃ v, fs.lookup f = some v ∧ Rp K F v d
  | [], [], _, _, h => by cases h
  | [], _ :: _, e, _, _ => by cases e
  | _ :: _, [], e, _, _ => by cases e
  | (a, v) :: fs, (b, d') :: es, e, r, h => by
    rw [List.map_cons, List.map_cons] at e
    injection e with e1 e2
    have e1 : a = b := e1
    subst e1
    have r : RpA K F (v :: fs.map (·.2)) (d' :: es.map (·.2)) := r
    cases r with
    | cons r1 r2 =>
      rw [lookup_put]
      have h2 : (if f = a then some d' else es.lookup f) = some d := by
        rw [← h]
        by_cases z : f = a
        · subst z
          simp [List.lookup]
        · have z2 : (f == a) = false := by simpa using z
          rw [if_neg z]
          simp [List.lookup, z2]
      by_cases z : f = a
      · rw [if_pos z] at h2 ⊢
        cases h2
        exact ⟨v, rfl, r1⟩
      · rw [if_neg z] at h2 ⊢
        exact lookup_rel e2 r2 h2
theorem ClsOk.named (c : Kx true X G W k) : ∀ {hds : List ExceptHandler} {cl : List CL} {l : List (Value × Nat × ClauseT)}, ClsOk X G k hds cl l → Named X hds l := by
  intro hds cl l h
  induction h with
  | nil => exact .nil
  | h hi hln hg hdb hm hh hsu r ih =>
    refine .cons hi hln ⟨hg, hdb, .inl hm⟩ (fun a oe cls d pn z ⟨vs, hv⟩ => hsu a _ ⟨c.hK, takes0, c.un, c.nd, fun z => (nomatch z), fun z => (nomatch z), fun _ => ⟨⟨_, ⟨rfl, vs, hv, z.2.2 vs hv⟩, List.mem_cons_self⟩, (c.hr rfl).dp, (c.hr rfl).un⟩⟩) ih
  | @f2 x n f1 f2 i C hit np pos' q1 q2 q3 q4 q5 q6 ctx hds cl l hi hln hg hdb hm hh hone T no1 no2 hd hcd r hb1 hb2 hs1 hs2 ih =>
    refine .cons hi hln ⟨hg, hdb, .inl hm⟩ (fun a oe cls d pn z hv => pss_one (ps_ret (pe_tup (pa_cons (pe_xf T no1 z.zc hv (pe_var (i := i) hi (.inl hln) hd hcd) hb1) (pa_cons (pe_xf T no2 z.zc hv (pe_var (i := i) hi (.inl hln) hd hcd) hb2) pa_nil hs2) hs1)))) ih
theorem caught_ok {F H' : Hp} {τ : Tmp} {E : Ends} {e : Exn} {ρ : Sto} {σ' : L2.St} {F' : Hp} {cls : Value} {dd : Option Addr} (s' : Same F F') (R' : Rep G F' H' ρ σ' τ) (xr : ExR G.K G.ex F' H' e cls dd) :
    ∀ {hds : List ExceptHandler} {cl : List CL} {l : List (Value × Nat × ClauseT)}, ClsOk X G k hds cl l → FinS G W F τ E (caught e ρ cl) → wNamed X.K W E l cls dd σ' H' := by
  intro hds cl l h
  induction h with
  | nil => exact fun q => q F' H' σ' cls dd s' R' xr
  | @h x n i C hit g b₀ suite np pos' hds cl l hi hln hg hdb hm hh hsu r ih =>
    intro q
    unfold caught at q
    match v : hit e.c with
    | none => rw [v] at q; exact q.elim
    | some false =>
      rw [v] at q
      exact ⟨false, by rw [xr.1]; exact hh _ _ v, fun z => (nomatch z), fun _ => ih q⟩
    | some true =>
      rw [v] at q
      exact ⟨true, by rw [xr.1]; exact hh _ _ v, fun _ a na => ⟨F', _, τ, R'.clear i _, fin_suite (FinS.mono s' q)⟩, fun z => (nomatch z)⟩
  | @f2 x n f1 f2 i C hit np pos' q1 q2 q3 q4 q5 q6 ctx hds cl l hi hln hg hdb hm hh hone T no1 no2 hd hcd r hb1 hb2 hs1 hs2 ih =>
    intro q
    unfold caught at q
    match v : hit e.c with
    | none => rw [v] at q; exact q.elim
    | some false =>
      rw [v] at q
      exact ⟨false, by rw [xr.1]; exact hh _ _ v, fun z => (nomatch z), fun _ => ih q⟩
    | some true =>
      rw [v] at q
      refine ⟨true, by rw [xr.1]; exact hh _ _ v, fun _ a na => ?_, fun z => (nomatch z)⟩
      simp only [runC] at q
      by_cases hr : i < ρ.length
      case neg => rw [if_neg hr] at q; exact q.elim
      rw [if_pos hr] at q
      match v1 : e.fs.lookup f1, v2 : e.fs.lookup f2 with
      | none, _ => rw [v1] at q; exact q.elim
      | some d1, none => rw [v1, v2] at q; exact q.elim
      | some d1, some d2 =>
        rw [v1, v2] at q
        obtain ⟨ec, xf⟩ := xr
        have eC : cls = .ref C := ec.trans (hone _ v)
        rcases xf with ⟨z, _⟩ | ⟨dx, fs, ed, hx, en, rv⟩
        · rw [z] at v1
          cases v1
        · obtain ⟨w1, l1, rp1⟩ := lookup_rel en rv v1
          obtain ⟨w2, l2, rp2⟩ := lookup_rel en rv v2
          have hlen : i < σ'.length := by rw [R'.len]; exact hr
          have look : (σ'.set i (some (V.ref a)))[i]? = some (some (.ref a)) := List.getElem?_set_self hlen
          refine ⟨.ref a, look, rfl, eC, dx, fs, w1, ed, hx, l1, .ref a, look, rfl, eC, dx, fs, w2, ed, hx, l2, ?_⟩
          refine ⟨by rw [sizeLine_eq]; simp, fun p hp => ?_⟩
          have R2 := (R'.clear i (some (V.ref a))).ext (Ext.new (.tup [w1, w2]) R'.sub hp)
          exact q _ _ _ _ (s'.trans (same_upd (R'.sub.free hp))) R2 (.tup upd_same (.cons (rp1.mono (same_upd (R'.sub.free hp))) (.cons (rp2.mono (same_upd (R'.sub.free hp))) .nil)))
theorem es_tryMs {cl : List CL} {l : List (Value × Nat × ClauseT)} {h₀ : ExceptHandler} {hds : List ExceptHandler} (c : Kx true X G W k)
    (hb : ∀ (pn : List (Addr × Obj)) (xe : Value → Shared → Prop) (W' : WX), Kx true (X.tr pn xe) G W' k → PassesOwn (model X.prog X.w) X.A X.env xe → PSs (X.tr pn xe) body (tS G W' g))
    (hc : ClsOk X G k (h₀ :: hds) cl l) (hs : X.stack = X.env :: X.outer := by rfl) (hf : X.env.frame = some X.env.locals := by rfl) : PS X (.Try body (h₀ :: hds) [] [] pos) (tS G W (tryMs g cl)) := by
  refine PS.imp (ps_try_named (tb := fun W' => tS G W' g) hs hf c.nd c.tk (fun W' pn xe tk po => hb pn xe W' ⟨c.hK, tk, c.un, c.nd, c.hr, c.calm, fun z => (nomatch z)⟩ po) (hc.named c)) fun E σ H ⟨F, ρ, τ, R, q⟩ => ⟨F, ρ, τ, R, ?_⟩
  unfold tryMs at q
  match u : g ρ with
  | none => rw [u] at q; exact q.elim
  | some (.ok o ρ') => rw [u] at q; exact FinS.anyW q
  | some (.exc e ρ') =>
    simp only [u] at q
    exact fun F' H' σ' cls dd s' R' xr => caught_ok s' R' xr hc q
end
end Dn

/-! enumerate(x, start=1); a list times an int -/
namespace Dn
open PySem PySem.Spec PyProof.Rows L2
def ItE1 (k : Kd) (K : PySem.W.Frag) (a : Addr) : It :=
  ⟨fun i H => ∃ xs x, SqK k K H a xs ∧ xs[i]? = some x,
   fun i H v H' => ∃ p x, v = .ref p ∧ H p = none ∧ H' = upd H p (.tup [.int (1 + (i : Nat)), x]) ∧ ∀ xs, SqK k K H a xs → xs[i]? = some x,
   fun i H => ∃ xs, SqK k K H a xs ∧ i = xs.length⟩
def ETurn1 (k : Kd) (e u a : Addr) (i : Nat) (h : Heap) : Prop := (∃ old, IsEnum h e u (1 + ((i : Nat) : Int)) old) ∧ IterK k h u a i ∧ e ≠ u ∧ a ≠ u ∧ a ≠ e
theorem turnE1 {P : Program} {w : World} {K : PySem.W.Frag} {elts : List Expr} {kk : Nat} {tp : Pos} {k : Kd} {e u a : Addr} : Turn P w K (.Tuple elts kk tp) (ItE1 k K a) [e, u] e (ETurn1 k e u a) where
  mem := List.mem_cons_self ..
  obj := fun i h ⟨⟨old, he⟩, h1, _⟩ c hc => by
    rcases two.mp hc with rfl | rfl
    · exact ⟨_, he, fun _ n => (nomatch n)⟩
    · exact h1.obj
  keep := fun i h h' ⟨⟨old, he⟩, h1, n⟩ g => ⟨⟨old, g _ (two.mpr (.inl rfl)) _ he⟩, h1.at fun o q => g _ (two.mpr (.inr rfl)) o q, n⟩
  item := by
    intro X eP ew eK calm i pins s σ H E I free st go
    subst eP ew eK
    obtain ⟨⟨old, he⟩, h1, neu, nau, nae⟩ := st
    obtain ⟨xs, x, sx, gx⟩ := go
    obtain ⟨us, rx, c1, l1⟩ := seqK I sx
    obtain ⟨ux, e1, r1⟩ := rx.get gx
    have hd : X.A.in1.handled = none := I.ok.hd calm
    have el : e < s.heap.objs.size := Heap.lt_size he
    have b1 : i < us.toArray.size := by
      have := (List.getElem?_eq_some_iff.mp e1).1
      simpa using this
    refine wpAny_pyNext_enum_itemC (drawsK k hd u a nau us.toArray) he ⟨h1, c1⟩ b1 neu (by simp [neu, nae.symm]) fun vx h' tk px out st1 new sz kept => ?_
    have ex : ux = vx := by
      have : some ux = some vx := by rw [← e1, ← px]; simp
      exact Option.some.inj this
    subst ex
    refine ⟨_, rfl, wpAny_letOwnedTupleGo_enum (s := { s with heap := h', toks := tk + 1 }) out fun h'' he' sb => ?_⟩
    have up : ∀ c o, c ≠ e → h'.get? c = some o → h''.get? c = some o := fun c o n g => (sb.2 c n).trans g
    have T2 := up _ _ (Nat.ne_of_gt el) new
    have made : ObjOk X.prog X.w (upd H s.heap.objs.size (.tup [.int (1 + (i : Nat)), x])) h'' s.heap.objs.size (.tup [.int (1 + (i : Nat)), x]) := ⟨by show 2 ≤ sizeLine; decide, [.int (1 + (i : Int)) tk, ux], .cons ⟨_, rfl⟩ (.cons r1 .nil), ⟨_, T2, rfl, _, rfl⟩⟩
    have I2 : Inv X pins σ (upd H s.heap.objs.size (.tup [.int (1 + (i : Nat)), x])) { s with heap := h'', toks := tk + 1 } := I.turnedNew (ch := [e, u]) (fun c o n g => by
      have n' : ¬ (c = e ∨ c = u) := fun g => n (two.mpr g)
      simp only [not_or] at n'
      exact up c o n'.1 (kept c o n'.1 n'.2 g)) free (Nat.le_refl _) made
    refine ⟨.ref s.heap.objs.size, _, I2, rfl, ⟨_, x, rfl, I.hok.fresh (Nat.le_refl _), rfl, fun l hl => by rw [SqK.inj I hl sx]; exact gx⟩, ⟨⟨ux, ?_⟩, st1.1.at fun o g => up _ o neu.symm g, neu, nau, nae⟩, fun c hc => ?_⟩
    · have e3 : 1 + ((i + 1 : Nat) : Int) = 1 + (i : Int) + 1 := by omega
      rw [e3]
      exact he'
    · have lt : c < s.heap.objs.size := by
        rcases two.mp hc with rfl | rfl
        · exact el
        · obtain ⟨_, g, _⟩ := h1.obj; exact Heap.lt_size g
      rw [upd_ne (Nat.ne_of_lt lt)]
      exact (free c hc).1
  done := by
    intro X eP ew eK calm i pins s σ H E I free st go
    subst eP ew eK
    obtain ⟨⟨old, he⟩, h1, neu, nau, nae⟩ := st
    obtain ⟨xs, sx, g1⟩ := go
    obtain ⟨us, rx, c1, l1⟩ := seqK I sx
    have hd : X.A.in1.handled = none := I.ok.hd calm
    have n1 : us.toArray.size = xs.length := by rw [rx.length]; simp
    have ei : i = us.toArray.size := by omega
    subst ei
    refine wpAny_pyNext_enum_endD (drawsK k hd u a nau us.toArray) he ⟨h1, c1⟩ fun h' eb => ⟨rfl, I.turnedL (t' := s.toks) (ch := [e, u]) (fun c o n g => eb c o (fun q => n (by simp [q])) g) free⟩
  self := fun A i s Q E st h => let ⟨⟨_, he⟩, _⟩ := st; wpAny_pyIter_enum he h
/-- a built-in class called with keywords -/
theorem callWith_tkw {M : Model} {A : Around} {E : Value → Shared → Prop} {s : Shared} {env : Env} {pos : Pos} {T : String} {e : Expr} {rest : List Expr} {kws : List Keyword} {Q : Value → Shared → Prop}
    (h : wpAny M A (spliced (backTo pos (starEach (e :: rest) env))) (fun vs s₁ => wpAny M A (evalAll ((backToKw pos (keywordEach kws env)).map (·.2)))
      (fun kvs s₂ => wpAny M A (call (.type T) vs (((backToKw pos (keywordEach kws env)).filterMap (·.1)).zip kvs)) Q E s₂) E s₁) E s)
    (he : backTo pos (starEach (e :: rest) env) = (false, eval e env) :: backTo pos (starEach rest env)) (hp : (backTo pos (starEach (e :: rest) env)).any (·.1) = false)
    (hall : (backToKw pos (keywordEach kws env)).all (·.1.isSome) = true) (hkw : (backToKw pos (keywordEach kws env)).any (·.1.isNone) = false) :
    wpAny M A (callWith pos (.type T) [] (backTo pos (starEach (e :: rest) env)) (backToKw pos (keywordEach kws env))) Q E s := by
  unfold callWith
  refine wpAny_bind (wpAny_holding (wpAny_mono (Q := fun a s₁ => wpAny M A (call (.type T) ([] ++ a.pos) a.kw) Q E s₁) ?_ (fun a s₁ h₁ => wpAny_bind (wpAny_standAt ?_)) fun _ _ z => z))
  · rw [he] at h ⊢
    exact evalArgs_kwB hall h
  · simp only [hp, hkw, Bool.or_false]
    refine wpAny_bind (wpAny_pure (wpAny_bind (wpAny_mono h₁ (fun r s₂ hr => wpAny_bind (wpAny_holding (wpAny_point (wpAny_pure hr)))) fun _ _ z => z)))
theorem pi_e1 {X : Cx} {e : Expr} {ta : TA} {p pos tp kp cp : Pos} {elts : List Expr} {kk j : Nat} (hg : Gl X "enumerate") (hm : X.mg "enumerate" = none) (ha : PA X [e] ta)
    (he : backTo pos (starEach [e] X.env) = (false, eval e X.env) :: backTo pos (starEach [] X.env) := by rfl) (hp : (backTo pos (starEach [e] X.env)).any (·.1) = false := by rfl)
    (hall : (backToKw pos (keywordEach [⟨some "start", .Constant (.int 1) j cp, kp⟩] X.env)).all (·.1.isSome) = true := by rfl) (hkw : (backToKw pos (keywordEach [⟨some "start", .Constant (.int 1) j cp, kp⟩] X.env)).any (·.1.isNone) = false := by rfl)
    (hf : (backToKw pos (keywordEach [⟨some "start", .Constant (.int 1) j cp, kp⟩] X.env)).filterMap (·.1) = [("start" : Str)] := by rfl) :
    PI X (.Tuple elts kk tp) (.Call (.Name "enumerate" p) [e] [⟨some "start", .Constant (.int 1) j cp, kp⟩] pos) (fun σ H R => ta σ H fun vs H1 => ∃ k a xs, vs = [.ref a] ∧ SqK k X.K H1 a xs ∧ R (ItE1 k X.K a) H1) :=
  ⟨fun pins s σ H R I h => wpAny_Call_Name_kw (ld_blt I hg hm boot_enumerate (callWith_tkw (thn (ha.run pos pins s σ H _ I h) fun us s1 ⟨vs, H1, I1, r1, k, a, xs, ev, sx, q⟩ => by
    subst ev
    cases r1 with
    | cons ra rb =>
      cases rb
      cases ra
      refine kws_cons (wpAny_Constant_int (kws_nil ?_))
      rw [hf]
      obtain ⟨us, _, c1, l1⟩ := seqK I1 sx
      refine enum_begins_start (s := { s1 with toks := s1.toks + 1 }) (beginsK k a us.toArray) c1 (by decide) (by decide) fun h' en i1 sz kept => wpAny_pyIter_enum en ?_
      refine ⟨_, [s1.heap.objs.size + 1, s1.heap.objs.size], _, _, H1, rfl, I1.kept (t' := s1.toks + 1) kept, turnE1 (k := k) (a := a) (e := s1.heap.objs.size + 1) (u := s1.heap.objs.size), ⟨⟨.none, en⟩, iterK_0 i1, Nat.succ_ne_self _, Nat.ne_of_lt l1, Nat.ne_of_lt (Nat.lt_succ_of_lt l1)⟩, fun c hc => ?_, q⟩
      have le : s1.heap.objs.size ≤ c := by
        rcases two.mp hc with rfl | rfl
        all_goals omega
      exact I1.fpOk le (I1.hok.fresh le)) he hp hall hkw))⟩
def enumL1 (xs : List D) : List D := List.zipWith (fun (i : Nat) x => .tup [.int (1 + (i : Nat)), x]) (List.range xs.length) xs
def enumD1 : List D → Option (List D)
  | [a] => (itemsD a).map enumL1
  | _ => none
theorem iter_enum1 {K : PySem.W.Frag} {F : Hp} {k : Kd} {a : Addr} {xs : List V} {l : List D} (h1 : ∀ H, Same F H → SqK k K H a xs) (r1 : RpA K F xs l) : IterOf K F (enumL1 l) (ItE1 k K a) := fun i Fc Hc s1 s2 => by
  have e1 := h1 Hc (s1.trans s2)
  refine ⟨fun d hd => ?_, fun hl => ⟨xs, e1, ?_⟩⟩
  · unfold enumL1 at hd
    rw [List.getElem?_zipWith] at hd
    cases hx : l[i]? with
    | none => rw [hx] at hd; simp at hd
    | some dx =>
      have hi : i < l.length := (List.getElem?_eq_some_iff.mp hx).1
      rw [hx, List.getElem?_range hi] at hd
      simp only [Option.some.injEq] at hd
      subst hd
      obtain ⟨vx, gx, rx⟩ := r1.get hx
      refine ⟨⟨xs, vx, e1, gx⟩, fun x H' ⟨q, x', ev, hq, eH, f1⟩ => ?_⟩
      have ex : vx = x' := Option.some.inj (gx.symm.trans (f1 xs e1))
      subst ev eH ex
      have ext := Ext.new (.tup [.int (1 + (i : Nat)), vx]) s2 hq
      exact ⟨_, ext, .tup upd_same (.cons (.int _) (.one ((rx.mono s1).mono ext.f)))⟩
  · unfold enumL1 at hl
    rw [List.length_zipWith, List.length_range] at hl
    rw [r1.length]
    omega
section
variable {bb : Bool} {X : Cx} {G : Gx} {W : WX} {k : Nat} {pos p p2 tp kp cp : Pos} {a b c e : Expr} {es elts : List Expr} {kk j : Nat} {fs : M (List D)} {fa fb : M D}
theorem ew_enum1 (c : Kx bb X G W k) (hm : X.mg "enumerate" = none) (ha : PA X [a] (tA G W fs)) (hg : Gl X "enumerate" := by rfl)
    (he : backTo pos (starEach [a] X.env) = (false, eval a X.env) :: backTo pos (starEach [] X.env) := by rfl) (hp : (backTo pos (starEach [a] X.env)).any (·.1) = false := by rfl)
    (hall : (backToKw pos (keywordEach [⟨some "start", .Constant (.int 1) j cp, kp⟩] X.env)).all (·.1.isSome) = true := by rfl) (hkw : (backToKw pos (keywordEach [⟨some "start", .Constant (.int 1) j cp, kp⟩] X.env)).any (·.1.isNone) = false := by rfl)
    (hf : (backToKw pos (keywordEach [⟨some "start", .Constant (.int 1) j cp, kp⟩] X.env)).filterMap (·.1) = [("start" : Str)] := by rfl) :
    PI X (.Tuple elts kk tp) (.Call (.Name "enumerate" p) [a] [⟨some "start", .Constant (.int 1) j cp, kp⟩] pos) (tW G W (rngM enumD1 fs)) :=
  ⟨fun pins s σ H R I ⟨F, ρ, τ, R0, q⟩ => (pi_e1 hg hm ha he hp hall hkw hf).run pins s σ H R I ⟨F, ρ, τ, R0, (Fin.bind q).imp fun ds ρ1 F1 H1 s1 R1 q1 vs rvs => by
    obtain ⟨l, e, z⟩ := Fin.lift q1
    have z' := z F1 H1 (Same.refl _) R1
    unfold enumD1 at e
    split at e
    · obtain ⟨x, hx, e⟩ := Option.map_eq_some_iff.mp e
      subst e
      cases rvs with
      | cons r1 r2 =>
        cases r2
        obtain ⟨k, a, xs, rfl, ra, sa⟩ := r1.seq hx
        rw [← c.hK]
        exact ⟨k, a, xs, rfl, sa H1 R1.sub, z' _ (iter_enum1 sa ra)⟩
    · cases e⟩⟩
/-- a list times an int -/
def repLD (a b : D) : Option D := match a, b with
  | .lst l, .int i => if i ≤ 1000 ∧ -1000 ≤ i ∧ l.length ≤ 100 then some (.lst (List.replicate i.toNat l).flatten) else none
  | _, _ => none
theorem ei_repL (c : Kx bb X G W k) (ha : PE X a (tI G W fa)) (hb : PE X b (tI G W fb)) : PE X (.BinOp a .Mult b pos) (tI G W (bin2 repLD fa fb)) :=
  ei_op c op_rep (fun F H x y a b d Q s rx ry e q => by
    unfold repLD at e
    split at e
    · rename_i l i
      split at e
      · rename_i hn
        cases e
        cases ry
        cases rx with
        | lst g r =>
          have ln := r.length
          have hm : l.length * i.toNat ≤ 100 * 1000 := Nat.mul_le_mul hn.2.2 (by omega)
          refine ⟨_, _, _, rfl, rfl, s _ _ g, by omega, by omega, by rw [ln]; exact line5 hm, fun p hp => ?_⟩
          have ex := fun o => Ext.new o s hp
          exact q _ _ _ (ex _) (.lst upd_same ((r.flat _).mono (ex _).f))
      · cases e
    · cases e) ha hb
end
end Dn

set_option maxHeartbeats 1000000
/-! a pick among written texts keeps its text's own token -/
namespace Dn
open PySem PySem.Spec PyProof.Rows L2
/-- things[taken(row, len(things))] of a known list: its very object -/
theorem pick_run {P : Program} {w : World} {K : PySem.W.Frag} {mg : Str → Option Value} {base : Heap} {ex : Nat → Value} {k j : Nat} {nm tk : Str} {fp : Addr} {fd : FuncData} {st : Stmt} {dt : List D → Den (D × List D)} {p1 p2 p3 p4 p5 p6 p7 p8 p9 : Pos}
    (Fn : Fun K nm nm st fp fd) (S : FnScope ["row", "things"] ["row", "things"] (defScope st))
    (hb : defBody st = [.Return (some (.Subscript (.Name "things" p1) (.Call (.Name tk p2) [.Name "row" p3, .Call (.Name "len" p4) [.Name "things" p5] [] p6] [] p7) p8)) p9])
    (ht : Df true P w K mg base tk 2 j (spL K ex 2 dt)) (hjk : j ≤ k) (hlen : mg "len" = none) (g1 : (defScope st).names.lookup tk = some .globalImplicit) (g2 : (defScope st).names.lookup ("len" : Str) = some .globalImplicit)
    (hk1 : (defScope st).names.lookup ("row" : Str) = some .local) (hk2 : (defScope st).names.lookup ("things" : Str) = some .local) (hdb : (tk == ("__debug__" : Str)) = false)
    {A : Around} {outer : List Env} {s : Shared} {H : Hp} {prow pth : Addr} {rv xs : List V} {its : List Value} {rs rs' : List D} {F : Hp} {i : Nat} {u : Value} {n0 : Nat}
    (hr : Room (k + 1) A) (e0 : Env0 P w K mg base A outer s H) (bd : BindsTo s fd ⟨[.ref prow, .ref pth], []⟩ ((["row", "things"] : List Str).zip [.ref prow, .ref pth])) (sF : Same F H) (hrow : H prow = some (.lst rv)) (hF : F prow = none) (ra : RpA K F rv rs)
    (hth : H pth = some (.frz ⟨.type "list", none, .seq its.toArray n0, #[]⟩ (.lst xs))) (hxs : xs.length = its.length) (hne : pth ≠ prow) (hd : dt rs [.int its.length] = some (.ok (.int i, rs'))) (hi : its[i]? = some u) (hsm : its.length ≤ 1000) {R : Result → Shared → Prop}
    (hR : ∀ s' F' H' rv', s'.os = s.os → AllBare s'.gens → Un (frs outer) [] H H' s.heap s'.heap → HOk P w H' s'.heap → Same F F' → Same F' H' → (∀ a, F' a ≠ none → F a = none → H a = none) → (∀ a o, a ≠ prow → H a = some o → H' a = some o) → F' prow = none → H' prow = some (.lst rv') → RpA K F' rv' rs' → R (.ok (.ret u)) s') :
    codeAny (model P w) A (.call (.ref fp) ⟨[.ref prow, .ref pth], []⟩) R s := by
  obtain ⟨oc, od, kV, doc, pm, an, cdv, ct, osl, rfl, lk, hcd⟩ := Fn.ex
  have KX : K.In s.heap := e0.mod.kin.keeps fun b o e => (e0.bs b o e).1
  have lim : s.heap.NoLimit := e0.mod.nolimit.keeps fun b o e => (e0.bs b o e).1
  have hkind : ∀ y ∈ (["row", "things"] : List Str).zip [Value.ref prow, Value.ref pth], (defScope st).names.lookup y.1 = some .local ∨ ((defScope st).names.lookup y.1 = some .cell ∧ ((cellsFrom (s.heap.objs.size + 1) (defScope st).names []).lookup y.1).isSome = true) := fun y hy => by
    rcases List.mem_cons.mp hy with e | hy
    · subst e; exact .inl hk1
    · rw [List.mem_singleton.mp hy]; exact .inl hk2
  refine codeAny_call_function hr.depth (KX _ _ lk) rfl S.co S.gen rfl (PySem.W.codeRec_of KX hcd) (bd _ _ _ _ (wpAny_newFunctionEnv_cells S.kind hkind fun env he s1 x => ?_))
  subst he
  refine ⟨lim.keeps x.toInCall.keep, codeAny_func ?_⟩
  have I : Inv (cxOf (L2N.CX P w) P w K mg base ["row", "things"] nm (defScope st) fp cdv A outer s H (fun _ _ _ => False)) [] (L2.start ["row", "things"] [.ref prow, .ref pth]) H s1 := inv_start S hr.hd e0 rfl (.cons rfl (.cons rfl .nil)) x
  have c := kx_def (bb := true) (P := P) (w := w) (K := K) (mg := mg) (base := base) (N := ["row", "things"]) (ps := ["row", "things"]) (qual := nm) (st := st) (f := fp) (k := k) (cdv := cdv) (A := A) (outer := outer) (s := s) (H := H) (E := fun _ _ _ => False) (pn := []) (G := ⟨K, F, H, [prow], ex⟩) (F := F) S rfl (fun _ => hr.deeper _) (fun z => nomatch z)
  rw [hb]
  refine wpAny_mono (Q := fun fl s' => ∃ v, fl = .ret v ∧ R (.ok (.ret v)) s') (E := (cxOf (L2N.CX P w) P w K mg base ["row", "things"] nm (defScope st) fp cdv A outer s H (fun _ _ _ => False)).xe) ?_ (fun fl s' ⟨v, e, z⟩ => by rw [e]; exact z)
    (fun e s' z => wpAny_mono z (fun _ s'' ⟨_, _, _, _, _, _, _, _, _, _, _, _, f⟩ => f.elim) (fun _ s'' ⟨_, _, _, _, _, _, _, _, _, _, _, _, f⟩ => f.elim))
  refine wpAny_execs_cons (wpAny_Return_some (Subscript_ ?_))
  refine binT (X := cxOf (L2N.CX P w) P w K mg base ["row", "things"] nm (defScope st) fp cdv A outer s H (fun _ _ _ => False)) (pe_var (i := 1) rfl (.inl hk2))
    (pe_df c ht (pa_cons (pe_var (i := 0) rfl (.inl hk1)) (pa_cons (pe_callB call_len_seq g2 hlen PySem.boot_len (pa_cons (pe_var (i := 1) rfl (.inl hk2)) pa_nil) (by decide) (by decide) rfl rfl) pa_nil)) hjk g1 hdb rfl rfl) I
    (R := fun x y H2 => x = .ref pth ∧ y = .int i ∧ ∃ F' rv', Same F F' ∧ Same F' H2 ∧ (∀ a, F' a ≠ none → F a = none → H a = none) ∧ (∀ a o, a ≠ prow → H a = some o → H2 a = some o) ∧ F' prow = none ∧ H2 prow = some (.lst rv') ∧ RpA K F' rv' rs') ?_ fun v uu s2 x y H2 I2 rx ry q => ?_
  · refine ⟨.ref pth, rfl, .ref prow, rfl, .ref pth, rfl, pth, xs, rfl, .inl (.inl (.inr ⟨_, hth⟩)), ?_⟩
    refine ⟨F, prow, rv, rs, [.int xs.length], [.int its.length], sF, rfl, hrow, hF, ra, .cons (by rw [hxs]; exact .int _) .nil, rfl, ?_⟩
    rw [hd]
    intro F' H' v rv' k1 k2 k3 k4 k5 k6 k7 k8
    cases k8
    exact ⟨rfl, rfl, F', rv', k1, k2, k3, k4, k5, k6, k7⟩
  · obtain ⟨ex1, ey1, F', rv', k1, k2, k3, k4, k5, k6, k7⟩ := q
    subst ex1 ey1
    obtain rfl : v = Value.ref pth := rx
    obtain ⟨tu, rfl⟩ := (show ∃ t, uu = Value.int i t from ry)
    have hfz := k4 _ _ hne hth
    have hob : s2.heap.get? pth = some ⟨.type "list", none, .seq its.toArray n0, #[]⟩ := (I2.hok pth _ hfz).1
    have hil : i < its.length := (List.getElem?_eq_some_iff.mp hi).1
    refine item_listR (items := its.toArray) ⟨_, hob, rfl, n0, rfl⟩ (by omega) (by omega) (by simpa using hi) ⟨u, rfl, ?_⟩ (by with_unfolding_all rfl)
    exact hR s2 F' H2 rv' I2.os I2.bare I2.base I2.hok k1 k2 k3 k4 k5 k6 k7

/-- written texts -/
inductive CsL : List Expr → List Str → Prop where
  | nil : CsL [] []
  | cons {y : Str} {j : Nat} {p : Pos} {es : List Expr} {ys : List Str} (r : CsL es ys) : CsL (.Constant (.str y) j p :: es) (y :: ys)
def strVals : Nat → List Str → List Value
  | _, [] => []
  | t, y :: r => .str y t :: strVals (t + 1) r
theorem strVals_length : ∀ (t : Nat) (ys : List Str), (strVals t ys).length = ys.length
  | _, [] => rfl
  | t, _ :: r => by show (strVals (t + 1) r).length + 1 = r.length + 1; rw [strVals_length]
theorem strVals_get : ∀ {t : Nat} {ys : List Str} {i : Nat} {y : Str}, ys[i]? = some y → (strVals t ys)[i]? = some (.str y (t + i)) ∧ i < ys.length
  | _, [], _, _, h => by cases h
  | t, _ :: r, 0, y, h => by
    cases h
    exact ⟨rfl, Nat.succ_pos _⟩
  | t, _ :: r, i + 1, y, h => by
    obtain ⟨h1, h2⟩ := strVals_get (t := t + 1) (ys := r) (i := i) (y := y) h
    refine ⟨?_, Nat.succ_lt_succ h2⟩
    show (strVals (t + 1) r)[i]? = _
    rw [h1, show t + 1 + i = t + (i + 1) by omega]
theorem strVals_vals : ∀ (t : Nat) (ys : List Str), Vals (ys.map V.str) (strVals t ys)
  | _, [] => .nil
  | t, y :: r => .cons ⟨t, rfl⟩ (strVals_vals (t + 1) r)
theorem cs_ev {M : Model} {A : Around} {E : Value → Shared → Prop} {env : Env} {pos : Pos} : ∀ {es : List Expr} {ys : List Str}, CsL es ys → ∀ {s : Shared} {Q : List Value → Shared → Prop}, Q (strVals s.toks ys) { s with toks := s.toks + ys.length } → wpAny M A (spliced (backTo pos (starEach es env))) Q E s
  | _, _, .nil, s, Q, h => Calls.spliced_nil h
  | _, _, .cons (y := y) (j := j) (p := p) (es := es) (ys := ys) r, s, Q, h => by
    show wpAny _ _ (spliced ((false, eval (.Constant (.str y) j p) env) :: backTo pos (starEach es env))) _ _ s
    refine Calls.spliced_cons (Calls.Constant_str (cs_ev r ?_))
    show Q (.str y s.toks :: strVals (s.toks + 1) ys) { s with toks := s.toks + 1 + ys.length }
    rw [show s.toks + 1 + ys.length = s.toks + (ys.length + 1) by omega]
    exact h
/-- where the def that picks stands -/
structure PickAt (P : Program) (w : World) (K : PySem.W.Frag) (mg : Str → Option Value) (base : Heap) (ex : Nat → Value) (nm : Str) (k : Nat) (dt : List D → Den (D × List D)) : Prop where
  e : ∃ (st : Stmt) (tk : Str) (j : Nat) (p1 p2 p3 p4 p5 p6 p7 p8 p9 : Pos), DefAt K mg nm st ["row", "things"] ∧ FnScope ["row", "things"] ["row", "things"] (defScope st) ∧
    defBody st = [.Return (some (.Subscript (.Name "things" p1) (.Call (.Name tk p2) [.Name "row" p3, .Call (.Name "len" p4) [.Name "things" p5] [] p6] [] p7) p8)) p9] ∧
    Df true P w K mg base tk 2 j (spL K ex 2 dt) ∧ j ≤ k ∧ mg "len" = none ∧ (defScope st).names.lookup tk = some .globalImplicit ∧ (defScope st).names.lookup ("len" : Str) = some .globalImplicit ∧
    (defScope st).names.lookup ("row" : Str) = some .local ∧ (defScope st).names.lookup ("things" : Str) = some .local ∧ (tk == ("__debug__" : Str)) = false
section
variable {X : Cx} {G : Gx} {W : WX} {k j : Nat}
theorem pick_ev {ex : Nat → Value} {nm y0 : Str} {dt : List D → Den (D × List D)} {es : List Expr} {ys : List Str} {i jx : Nat} {y : Str} {p p2 lp pos : Pos} {pins : List (Addr × Obj)} {s : Shared} {σ : L2.St} {H F : Hp} {ρ : Sto} {τ : Tmp} {b : Bool} {rs rs' : List D}
    (c : Kx true X G W k) (PA : PickAt X.prog X.w X.K X.mg X.base ex nm j dt) (hj : j + 1 ≤ k) (hN : X.N[i]? = some y0) (hv : Vis X.env.scope y0) (hd : (y0 == ("__debug__" : Str)) = false) (hcd : (y0 == ("__classdict__" : Str)) = false) (hg : Gl X nm) (hdb : (nm == ("__debug__" : Str)) = false)
    (hc : CsL es ys) (hl : ys.length ≤ 1000) (I : Inv X pins σ H s) (R : Rep G F H ρ σ τ) (hρ : ρ[i]? = some (.own b (.lst rs))) (hdt : dt rs [.int ys.length] = some (.ok (.int jx, rs'))) (hy : ys[jx]? = some y)
    (he : starEach [.Name y0 p2, .List es lp] X.env = (false, eval (.Name y0 p2) X.env) :: starEach [.List es lp] X.env) (he2 : backTo pos (starEach [.List es lp] X.env) = [(false, eval (.List es lp) X.env)])
    (hpl : (backTo pos (starEach [.List es lp] X.env)).any (·.1) = false) {Q : Value → Shared → Prop}
    (hQ : ∀ t F' H' s', Inv X pins σ H' s' → Same F F' → Rep G F' H' (ρ.set i (.own b (.lst rs'))) σ τ → s.toks ≤ t → t < s'.toks → Q (.str y t) s') :
    wpAny (model X.prog X.w) X.A (eval (.Call (.Name nm p) [.Name y0 p2, .List es lp] [] pos) X.env) Q X.xe s := by
  obtain ⟨st, tk, jj, q1, q2, q3, q4, q5, q6, q7, q8, q9, D, S, hb, ht, hjj, hlen, g1, g2, k1, k2, dbt⟩ := PA.e
  obtain ⟨fp, fd, Fn, hm, bi⟩ := D.ex
  obtain ⟨prow, o, e1, e2, ⟨rv, rfl, ra⟩, e4, e5⟩ := R.own hρ
  refine wpAny_Call_Name_kw (ld_glob I hg hm ?_ hdb)
  refine PySem.W.callWith_K (h₀ := X.base) (first := []) I.ok.mod.kin Fn.kp ?_ he hpl
  rw [he]
  show wpAny _ _ (spliced ((false, eval (.Name y0 p2) X.env) :: backTo pos (starEach [.List es lp] X.env))) _ _ s
  rw [he2]
  refine Calls.spliced_cons (wpAny_mono (PySem.wpAny_toks ((pe_var (pos := p2) hN hv hd hcd).run pins s σ H (fun v H1 => v = .ref prow ∧ H1 = H) I ⟨.ref prow, e1, rfl, rfl⟩)) (fun u s1 ⟨mono1, v, H1, I1, r1, ev, eH⟩ => ?_) fun _ _ z => z.2)
  subst ev eH
  obtain rfl : u = Value.ref prow := r1
  refine Calls.spliced_cons (wpAny_List_spliced (cs_ev hc ⟨by rw [strVals_length, sizeLine_eq]; omega, ?_⟩))
  refine Calls.spliced_nil ?_
  have new : H1 s1.heap.objs.size = none := I1.hok.fresh (Nat.le_refl _)
  have hobj : (s1.heap.push { cls := .type "list", data := .seq (strVals s1.toks ys).toArray }).get? s1.heap.objs.size = some (⟨.type "list", none, .seq (strVals s1.toks ys).toArray 0, #[]⟩ : Obj) := Heap.get?_push_size _ rfl
  have I2 : Inv X pins σ (upd H1 s1.heap.objs.size (.frz ⟨.type "list", none, .seq (strVals s1.toks ys).toArray 0, #[]⟩ (.lst (ys.map V.str)))) { s1 with heap := s1.heap.push { cls := .type "list", data := .seq (strVals s1.toks ys).toArray }, toks := s1.toks + ys.length } :=
    I1.laid (t' := s1.toks + ys.length) (fun b u e => Heap.get?_push_of_some _ e) (Nat.le_refl _) ⟨hobj, by rw [List.length_map, sizeLine_eq]; omega, strVals s1.toks ys, 0, strVals_vals _ _, hobj⟩
  refine ⟨I2.kIn, ?_⟩
  have R2 := R.ext (Ext.loose (.frz ⟨.type "list", none, .seq (strVals s1.toks ys).toArray 0, #[]⟩ (.lst (ys.map V.str))) R.sub new)
  have ne : s1.heap.objs.size ≠ prow := fun z => by rw [z, e2] at new; cases new
  obtain ⟨hit, hjl⟩ := strVals_get (t := s1.toks) hy
  refine wpAny_mono (PySem.wpAny_toks (wpAny_call (pick_run Fn S hb ht hjj hlen g1 g2 k1 k2 dbt ((c.hr rfl).mono hj) I2.env0 (bi _ [.ref prow, .ref s1.heap.objs.size] I2.kIn rfl) R2.sub (by rw [upd_ne (Ne.symm ne)]; exact e2) e4 (by rw [c.hK] at ra; exact ra) upd_same
    (by rw [List.length_map, strVals_length]) ne (by rw [strVals_length]; exact hdt) hit (by rw [strVals_length]; exact hl)
    (R := fun r s' => match r with | .ok (.ret v) => ∃ F' H', v = .str y (s1.toks + jx) ∧ Inv X pins σ H' s' ∧ Same F F' ∧ Rep G F' H' (ρ.set i (.own b (.lst rs'))) σ τ | .ok _ => False | .error e => X.xe e s') ?_))) (fun v s' ⟨mono2, F', H', ev, J, sF, RR⟩ => ?_) fun _ _ z => z.2
  · intro s' F' H' rv' os bare un hok m1 m2 m3 m4 m5 m6 m7
    obtain ⟨v, H'', J, _, eH⟩ := I2.after (Q := fun _ H'' => H'' = H') (u := .str y (s1.toks + jx)) ⟨.str y, H', os, bare, un, hok, ⟨_, rfl⟩, rfl⟩
    subst eH
    refine ⟨F', H'', rfl, J, m1, ?_⟩
    have g2' : (upd H1 s1.heap.objs.size (.frz ⟨.type "list", none, .seq (strVals s1.toks ys).toArray 0, #[]⟩ (.lst (ys.map V.str)))) prow = some (.lst rv) := by rw [upd_ne (Ne.symm ne)]; exact e2
    let Hm : Hp := fun x => if x = prow then some (.lst rv) else H'' x
    have am : Hm prow = some (.lst rv) := if_pos rfl
    have nmm : ∀ {x : Addr}, x ≠ prow → Hm x = H'' x := fun h => if_neg h
    have ext : Ext F (upd H1 s1.heap.objs.size (.frz ⟨.type "list", none, .seq (strVals s1.toks ys).toArray 0, #[]⟩ (.lst (ys.map V.str)))) F' Hm := by
      refine ⟨m1, fun x o e => ?_, fun x o e => ?_, m3⟩
      · by_cases hx : x = prow
        · subst hx
          rw [g2'] at e
          rw [am]; exact e
        · rw [nmm hx]; exact m4 x o hx e
      · have hx : x ≠ prow := fun h => by rw [h, m5] at e; cases e
        rw [nmm hx]; exact m2 x o e
    have R3 := (R2.ext ext).write (o := .lst rv') (c' := .lst rs') hρ e1 ⟨rv', rfl, by rw [c.hK]; exact m7⟩
    have eH : upd Hm prow (.lst rv') = H'' := by
      funext x
      by_cases hx : x = prow
      · subst hx; rw [upd_same, m6]
      · rw [upd_ne hx, nmm hx]
    rw [eH] at R3
    exact R3
  · subst ev
    exact hQ _ F' H' s' J sF RR (by omega) (by
      have mono2 : s1.toks + ys.length ≤ s'.toks := mono2
      omega)
end
end Dn

set_option maxHeartbeats 1000000
/-! a text with what is picked put for a written text -/
namespace Dn
open PySem PySem.Spec PyProof.Rows L2
theorem ns_none {K : PySem.W.Frag} {h : Heap} {a : Addr} {m : Str → Option Value} {n : Str} (X : K.In h) (G : h.Ns a m) (e : PySem.W.nsIn K a n = some none) : m n = none := by
  obtain ⟨o, es, ep, ho, hd, _, hf⟩ := G
  unfold PySem.W.nsIn at e
  split at e
  · rename_i c d es' n' sl q
    have z := X _ _ q
    rw [ho] at z
    cases z
    cases hd
    split at e
    · cases e
    · rename_i he
      rw [← hf]; unfold nsFind findBy
      rw [← Array.find?_toList, he]
      rfl
  · cases e
theorem none_booked {X : Cx} {pins : List (Addr × Obj)} {σ : L2.St} {H : Hp} {s : Shared} (I : Inv X pins σ H s) (h : PySem.W.nsIn X.K cStatics sharingNotToldKey = some none) : NoneBooked s.heap := by
  obtain ⟨mc, hn, _⟩ := I.nolimit
  exact ⟨mc, hn, ns_none I.kIn hn h⟩
section
variable {X : Cx} {G : Gx} {W : WX} {k j : Nat}
theorem rep_ev {ex : Nat → Value} {nm y0 xo c : Str} {dt : List D → Den (D × List D)} {es : List Expr} {ys : List Str} {i io jx jc : Nat} {y x : Str} {p p2 lp po cp apos pos pos2 : Pos} {pins : List (Addr × Obj)} {s : Shared} {σ : L2.St} {H F : Hp} {ρ : Sto} {τ : Tmp} {b : Bool} {rs rs' : List D}
    (cx : Kx true X G W k) (PA : PickAt X.prog X.w X.K X.mg X.base ex nm j dt) (hj : j + 1 ≤ k) (hnb : PySem.W.nsIn X.K cStatics sharingNotToldKey = some none) (hN : X.N[i]? = some y0) (hv : Vis X.env.scope y0) (hd : (y0 == ("__debug__" : Str)) = false) (hcd : (y0 == ("__classdict__" : Str)) = false) (hg : Gl X nm) (hdb : (nm == ("__debug__" : Str)) = false)
    (hc : CsL es ys) (hl : ys.length ≤ 1000) (I : Inv X pins σ H s) (R : Rep G F H ρ σ τ) (hρ : ρ[i]? = some (.own b (.lst rs))) (hdt : dt rs [.int ys.length] = some (.ok (.int jx, rs'))) (hy : ys[jx]? = some y)
    (he : starEach [.Name y0 p2, .List es lp] X.env = (false, eval (.Name y0 p2) X.env) :: starEach [.List es lp] X.env) (he2 : backTo pos (starEach [.List es lp] X.env) = [(false, eval (.List es lp) X.env)])
    (hpl : (backTo pos (starEach [.List es lp] X.env)).any (·.1) = false)
    (hNo : X.N[io]? = some xo) (hvo : Vis X.env.scope xo) (hdo : (xo == ("__debug__" : Str)) = false) (hcdo : (xo == ("__classdict__" : Str)) = false) (hio : ρ[io]? = some (.val (.str x))) (hx : x.length ≤ 1000) (hyl : y.length ≤ 100) (ht : 1 ≤ s.toks)
    (hst : starEach [.Constant (.str c) jc cp, .Call (.Name nm p) [.Name y0 p2, .List es lp] [] pos] X.env = [(false, eval (.Constant (.str c) jc cp) X.env), (false, eval (.Call (.Name nm p) [.Name y0 p2, .List es lp] [] pos) X.env)])
    (hbase : attributeBase (.Name xo po) "replace" X.env (eval (.Name xo po) X.env) = eval (.Name xo po) X.env) (hline : (apos.endLine == pos2.line) = true) {Q : Value → Shared → Prop}
    (hQ : ∀ t F' H' s', Inv X pins σ H' s' → Same F F' → Rep G F' H' (ρ.set i (.own b (.lst rs'))) σ τ → Q (.str (Txt.replace x c y) t) s') :
    wpAny (model X.prog X.w) X.A (eval (.Call (.Attribute (.Name xo po) "replace" apos) [.Constant (.str c) jc cp, .Call (.Name nm p) [.Name y0 p2, .List es lp] [] pos] [] pos2) X.env) Q X.xe s := by
  obtain ⟨v, e1, r1⟩ := R.val hio
  cases r1
  refine PySem.Call_method2 hbase hst hline (wpAny_mono (PySem.wpAny_toks ((pe_var (pos := po) hNo hvo hdo hcdo).run pins s σ H (fun v H1 => v = .str x ∧ H1 = H) I ⟨.str x, e1, rfl, rfl⟩)) (fun u s1 ⟨mono1, v, H1, I1, ru, ev, eH⟩ => ?_) fun _ _ z => z.2)
  subst ev eH
  obtain ⟨tx, rfl⟩ := ru
  refine ⟨"str", _, PySem.F.plainAttrs_str, PySem.F.slot_str_replace, PySem.F.type_str_replace, typeIs_str _ _ _, (fun _ e => nomatch e), Calls.callWith_builtin rfl (Calls.evalArgs_plain (Calls.spliced_cons (Calls.Constant_str (Calls.spliced_cons ?_))))⟩
  refine pick_ev (s := { s1 with toks := s1.toks + 1 }) cx PA hj hN hv hd hcd hg hdb hc hl (I1.tok _) R hρ hdt hy he he2 hpl fun t F' H' s' J sF RR lo hi => Calls.spliced_nil ?_
  have lo : s1.toks + 1 ≤ t := lo
  have hb : x.length + (x.length + 1) * y.length ≤ 16777216 := by
    have h1 : (x.length + 1) * y.length ≤ 1001 * 100 := Nat.mul_le_mul (by omega) hyl
    omega
  have n1 : s1.toks ≠ 0 := by omega
  have n2 : t ≠ 0 := by omega
  have n3 : s1.toks ≠ t := by omega
  exact PySem.SC.replaceA n1 n2 n3 hb (fun t' kk => hQ t' F' H' _ (J.tok kk) sF RR) (none_booked J hnb)
/-- what is picked -/
def pickS (dt : List D → Den (D × List D)) (ys : List Str) (rs : List D) : Option (Str × List D) := match dt rs [.int ys.length] with
  | some (.ok (.int i, rs')) => if 0 ≤ i then (match ys[i.toNat]? with | some y => some (y, rs') | none => none) else none
  | _ => none
theorem pickS_of {dt : List D → Den (D × List D)} {ys : List Str} {rs rs' : List D} {y : Str} (h : pickS dt ys rs = some (y, rs')) : ∃ jx : Nat, dt rs [.int ys.length] = some (.ok (.int jx, rs')) ∧ ys[jx]? = some y := by
  unfold pickS at h
  split at h
  · rename_i i rs2 e
    split at h
    · rename_i hi
      obtain ⟨n, rfl⟩ := Int.eq_ofNat_of_zero_le hi
      rw [Int.toNat_natCast] at h
      split at h
      · rename_i y2 hy
        cases h
        exact ⟨n, e, hy⟩
      · cases h
    · cases h
  · cases h
/-- two picks about a text, then two more -/
def looseS (dt : List D → Den (D × List D)) (c1 c2 : Str) (ya yb yc yd : List Str) (rs : List D) (x : Str) : Option (Str × Str × List D) := match pickS dt ya rs with
  | none => none
  | some (a, r1) => match pickS dt yb r1 with
    | none => none
    | some (b, r2) => if x.length ≤ 1000 ∧ b.length ≤ 100 ∧ a.length ≤ 100 then (match pickS dt yc r2 with
      | none => none
      | some (c, r3) => if (a ++ Txt.replace x c1 b).length ≤ 1000 ∧ c.length ≤ 100 then (match pickS dt yd r3 with
        | none => none
        | some (d, r4) => if d.length ≤ 100 then some (a ++ Txt.replace x c1 b, Txt.replace (a ++ Txt.replace x c1 b) c2 c ++ d, r4) else none) else none) else none
def looseM (dt : List D → Den (D × List D)) (c1 c2 : Str) (ya yb yc yd : List Str) : M Out := fun (ρ : Sto) => match (ρ[0]? : Option Slot), (ρ[1]? : Option Slot) with
  | some (.own b (.lst rs)), some (.val (.str x)) => match looseS dt c1 c2 ya yb yc yd rs x with
    | some (l, y, r4) => some (.ok (.ret (.str y)) ((ρ.set 2 (.val (.str l))).set 0 (.own b (.lst r4))))
    | none => none
  | _, _ => none

theorem es_loose {ex : Nat → Value} {nm c1 c2 : Str} {dt : List D → Den (D × List D)} {ea eb ec ed : List Expr} {ya yb yc yd : List Str} {j1 j2 : Nat} {a1 a2 a3 a4 b1 b2 b3 b4 b5 b6 b7 l1 l2 l3 d1 d2 d3 d4 d5 d6 d7 f1 f2 f3 f4 f5 l4 m1 m2 : Pos}
    (cx : Kx true X G W k) (PA : PickAt X.prog X.w X.K X.mg X.base ex nm j dt) (hj : j + 1 ≤ k) (hnb : PySem.W.nsIn X.K cStatics sharingNotToldKey = some none)
    (hN0 : X.N[0]? = some ("row" : Str)) (hN1 : X.N[1]? = some ("text" : Str)) (hN2 : X.N[2]? = some ("loose" : Str)) (v0 : Vis X.env.scope "row") (v1 : Vis X.env.scope "text") (v2 : X.env.scope.names.lookup ("loose" : Str) = some .local) (hg : Gl X nm) (hdb : (nm == ("__debug__" : Str)) = false)
    (ca : CsL ea ya) (cb : CsL eb yb) (cc : CsL ec yc) (cd : CsL ed yd) (la : ya.length ≤ 1000) (lb : yb.length ≤ 1000) (lc : yc.length ≤ 1000) (ld : yd.length ≤ 1000)
    (he : ∀ (p q : Pos) (es : List Expr), starEach [.Name "row" p, .List es q] X.env = (false, eval (.Name "row" p) X.env) :: starEach [.List es q] X.env) (he2 : ∀ (p q : Pos) (es : List Expr), backTo p (starEach [.List es q] X.env) = [(false, eval (.List es q) X.env)])
    (hst : ∀ (c : Str) (jc : Nat) (cp p p2 lp pos : Pos) (es : List Expr), starEach [.Constant (.str c) jc cp, .Call (.Name nm p) [.Name "row" p2, .List es lp] [] pos] X.env = [(false, eval (.Constant (.str c) jc cp) X.env), (false, eval (.Call (.Name nm p) [.Name "row" p2, .List es lp] [] pos) X.env)])
    (hbase : ∀ (xo : Str) (po : Pos), attributeBase (.Name xo po) "replace" X.env (eval (.Name xo po) X.env) = eval (.Name xo po) X.env) (hl1 : (b2.endLine == b7.line) = true) (hl2 : (d2.endLine == d7.line) = true)
    (hsw : swapsWith (.BinOp (.Call (.Name nm a1) [.Name "row" a2, .List ea a3] [] a4) .Add (.Call (.Attribute (.Name "text" b1) "replace" b2) [.Constant (.str c1) j1 b3, .Call (.Name nm b4) [.Name "row" b5, .List eb b6] [] l3] [] b7) l1) (some (.Name "loose" l2)) m1.line X.env = pure false) :
    PSs X [.Assign [.Name "loose" l2] (.BinOp (.Call (.Name nm a1) [.Name "row" a2, .List ea a3] [] a4) .Add (.Call (.Attribute (.Name "text" b1) "replace" b2) [.Constant (.str c1) j1 b3, .Call (.Name nm b4) [.Name "row" b5, .List eb b6] [] l3] [] b7) l1) m1,
      .Return (some (.BinOp (.Call (.Attribute (.Name "loose" d1) "replace" d2) [.Constant (.str c2) j2 d3, .Call (.Name nm d4) [.Name "row" d5, .List ec d6] [] f4] [] d7) .Add (.Call (.Name nm f1) [.Name "row" f2, .List ed f3] [] f5) l4)) m2] (tS G W (looseM dt c1 c2 ya yb yc yd)) := by
  refine ⟨fun pins s σ H D I ⟨F, ρ, τ, R, q⟩ => ?_⟩
  unfold looseM at q
  split at q
  case h_2 => exact q.elim
  rename_i bb rs x h0 h1
  split at q
  case h_2 => exact q.elim
  rename_i l y r4 hL
  unfold looseS at hL
  split at hL
  · cases hL
  rename_i ta ra pa
  split at hL
  · cases hL
  rename_i tb rb pb
  split at hL
  case isFalse => cases hL
  rename_i g1
  split at hL
  · cases hL
  rename_i tc rc pc
  split at hL
  case isFalse => cases hL
  rename_i g2
  split at hL
  · cases hL
  rename_i td rd pd
  split at hL
  case isFalse => cases hL
  rename_i g3
  cases hL
  obtain ⟨ja, da, ga⟩ := pickS_of pa
  obtain ⟨jb, db, gb⟩ := pickS_of pb
  obtain ⟨jc, dc, gc⟩ := pickS_of pc
  obtain ⟨jd, dd, gd⟩ := pickS_of pd
  have up1 : ∀ {ρ : Sto} {c : Co}, ρ[0]? = some (Slot.own bb c) → ∀ c', (ρ.set 0 (Slot.own bb c'))[0]? = some (Slot.own bb c') := fun {ρ c} h c' => List.getElem?_set_self (List.getElem?_eq_some_iff.mp h).1
  refine wpAny_execs_cons (wpAny_Assign_Name (wpAny_BinOp ?_) hsw)
  refine pick_ev cx PA hj hN0 v0 (by decide) (by decide) hg hdb ca la I R h0 da ga (he _ _ _) (he2 _ _ _) (by rw [he2]; rfl) fun t1 F1 H1 s1 I1 sF1 R1 lo1 hi1 => ?_
  have k1 := up1 h0 (.lst ra)
  refine wpAny_mono (PySem.wpAny_toks (rep_ev cx PA hj hnb hN0 v0 (by decide) (by decide) hg hdb cb lb I1 R1 k1 db gb (he _ _ _) (he2 _ _ _) (by rw [he2]; rfl) hN1 v1 (by decide) (by decide) ((List.getElem?_set_ne (by decide)).trans h1) g1.1 g1.2.1 (by omega) (hst _ _ _ _ _ _ _ _) (hbase _ _) hl1
    (Q := fun v s' => ∃ t F2 H2, v = .str (Txt.replace x c1 tb) t ∧ Inv X pins σ H2 s' ∧ Same F1 F2 ∧ Rep G F2 H2 ((ρ.set 0 (.own bb (.lst ra))).set 0 (.own bb (.lst rb))) σ τ) fun t F2 H2 s2 I2 sF2 R2 => ⟨t, F2, H2, rfl, I2, sF2, R2⟩)) (fun v s2 ⟨mo2, t2, F2, H2, ev, I2, sF2, R2⟩ => ?_) fun _ _ z => z.2
  subst ev
  rw [List.set_set] at R2
  have k2 := up1 h0 (.lst rb)
  have lenA : (ta ++ Txt.replace x c1 tb).length = ta.length + (Txt.replace x c1 tb).length := PySem.Str.length_append _ _
  refine wpAny_mono (PySem.wpAny_toks (op_add_str pins s2 σ H2 (.str ta) (.str (Txt.replace x c1 tb)) (.str ta t1) (.str (Txt.replace x c1 tb) t2) (fun v H' => v = .str (ta ++ Txt.replace x c1 tb) ∧ H' = H2) I2 ⟨_, rfl⟩ ⟨_, rfl⟩ ⟨_, _, rfl, rfl, by rw [sizeLine_eq]; omega, rfl, rfl⟩)) (fun v s3 ⟨mo3, v', H3, I3, rv, ev, eH⟩ => ?_) fun _ _ z => z.2
  subst ev eH
  refine wpAny_mono (PySem.wpAny_toks (store_ok (Q := fun _ s4 => Inv X pins (σ.set 2 (some (V.str (ta ++ Txt.replace x c1 tb)))) H3 s4) I3 cx.nd hN2 (.inl v2) rv (fun s4 I4 => I4) (.inr v2))) (fun _ s4 ⟨mo4, I4⟩ => ?_) fun _ _ z => z.2
  have R4 := R2.setv 2 (v := .str (ta ++ Txt.replace x c1 tb)) (d := .str (ta ++ Txt.replace x c1 tb)) (.str _)
  have k4 : ((ρ.set 0 (Slot.own bb (.lst rb))).set 2 (.val (.str (ta ++ Txt.replace x c1 tb))))[0]? = some (.own bb (.lst rb)) := (List.getElem?_set_ne (by decide)).trans k2
  have len2 : 2 < (ρ.set 0 (Slot.own bb (.lst rb))).length := by
    have e1 := R4.len
    rw [List.length_set, List.length_set] at e1
    have e2 := I4.len
    rw [List.length_set] at e2
    have e3 := (List.getElem?_eq_some_iff.mp hN2).1
    omega
  have k5 : ((ρ.set 0 (Slot.own bb (.lst rb))).set 2 (.val (.str (ta ++ Txt.replace x c1 tb))))[2]? = some (.val (.str (ta ++ Txt.replace x c1 tb))) := List.getElem?_set_self len2
  have tk4 : 1 ≤ s4.toks := by
    have e1 : s1.toks ≤ s2.toks := mo2
    have e2 : s2.toks ≤ s3.toks := mo3
    have e3 : s3.toks ≤ s4.toks := mo4
    omega
  refine wpAny_execs_cons (wpAny_Return_some (wpAny_BinOp ?_))
  refine rep_ev cx PA hj hnb hN0 v0 (by decide) (by decide) hg hdb cc lc I4 R4 k4 dc gc (he _ _ _) (he2 _ _ _) (by rw [he2]; rfl) hN2 (.inl v2) (by decide) (by decide) k5 g2.1 g2.2 tk4 (hst _ _ _ _ _ _ _ _) (hbase _ _) hl2 fun t5 F5 H5 s5 I5 sF5 R5 => ?_
  have k6 := up1 k4 (.lst rc)
  refine pick_ev cx PA hj hN0 v0 (by decide) (by decide) hg hdb cd ld I5 R5 k6 dd gd (he _ _ _) (he2 _ _ _) (by rw [he2]; rfl) fun t6 F6 H6 s6 I6 sF6 R6 lo6 hi6 => ?_
  rw [List.set_set] at R6
  have lenB : (Txt.replace (ta ++ Txt.replace x c1 tb) c2 tc).length ≤ 1000 + 1001 * 100 := Nat.le_trans (TK.replace_len _ _ _) (Nat.add_le_add g2.1 (Nat.mul_le_mul (by omega) g2.2))
  refine wpAny_mono (op_add_str pins s6 _ H6 (.str (Txt.replace (ta ++ Txt.replace x c1 tb) c2 tc)) (.str td) (.str _ t5) (.str td t6) (fun v H' => v = .str (Txt.replace (ta ++ Txt.replace x c1 tb) c2 tc ++ td) ∧ H' = H6) I6 ⟨_, rfl⟩ ⟨_, rfl⟩ ⟨_, _, rfl, rfl, by rw [sizeLine_eq]; omega, rfl, rfl⟩) (fun v s7 ⟨v', H7, I7, rv7, ev, eH⟩ => ?_) fun _ _ z => z
  subst ev eH
  refine ⟨_, _, _, I7, rv7, ?_⟩
  have e8 : ((ρ.set 0 (Slot.own bb (.lst rb))).set 2 (.val (.str (ta ++ Txt.replace x c1 tb)))).set 0 (.own bb (.lst r4)) = (ρ.set 2 (.val (.str (ta ++ Txt.replace x c1 tb)))).set 0 (.own bb (.lst r4)) := by
    rw [List.set_comm _ _ (show (0 : Nat) ≠ 2 by decide), List.set_set]
  rw [e8] at R6
  exact q F6 H7 _ _ (((sF1.trans sF2).trans sF5).trans sF6) R6 (.str _)
end
end Dn

set_option maxHeartbeats 1000000
/-! list(range(..)); what the text says of its errors; two clauses -/
namespace Dn
open PySem PySem.Spec PyProof.Rows L2
section
variable {X : Cx} {G : Gx} {W : WX} {k : Nat} {e e2 : Expr} {f f2 : M D} {p p2 p3 pos : Pos}
theorem RpA.range2 {K : PySem.W.Frag} {F : Hp} (a b : Int) : RpA K F (rgV a b) (rangeL a (b - a).toNat) := by
  have h : ∀ (l : List Nat), RpA K F (l.map fun (i : Nat) => V.int (a + (i : Nat))) (l.map fun (i : Nat) => D.int (a + (i : Nat))) := fun l => by
    induction l with
    | nil => exact .nil
    | cons i l ih => exact .cons (.int _) ih
  unfold rgV rangeL
  exact h _
def lstRg (a b : D) : Option Co := match a, b with
  | .int i, .int j => if -100000 ≤ i ∧ i ≤ 100000 ∧ -100000 ≤ j ∧ j ≤ 100000 then some (.lst (rangeL i (j - i).toNat)) else none
  | _, _ => none
def lstRgM (fa fb : M D) : M Co := M.bind fa fun a => M.bind fb fun b => M.lift (lstRg a b)
theorem en_listRg1 (c : Kx true X G W k) (hm : X.mg "list" = none) (hm2 : X.mg "range" = none) (ha : PE X e (tI G W f)) (hg : Gl X "list" := by rfl) (hg2 : Gl X "range" := by rfl) (he : starEach [e] X.env = (false, eval e X.env) :: starEach [] X.env := by rfl)
    (he2 : starEach [.Call (.Name "range" p2) [e] [] p3] X.env = (false, eval (.Call (.Name "range" p2) [e] [] p3) X.env) :: starEach [] X.env := by rfl) :
    PE X (.Call (.Name "list" p) [.Call (.Name "range" p2) [e] [] p3] [] pos) (tN G W (M.bind f fun d => M.lift (lstRg (.int 0) d))) :=
  PE.imp (pe_listRg (c.calm rfl) hg hm (prg_1 hg2 hm2 ha he) he2) fun σ H Q ⟨F, ρ, τ, R, q⟩ => ⟨F, ρ, τ, R, (Fin.bind q).imp fun d ρ1 F1 H1 s1 R1 q1 v rv => by
    obtain ⟨d', e, z⟩ := Fin.lift q1
    unfold lstRg at e
    split at e
    · rename_i z1 z2 i n e1
      split at e
      · rename_i hn
        cases e1
        cases e
        cases rv
        refine ⟨n, rfl, ⟨by omega, by omega, by omega, by omega, by omega⟩, fun q hq => ?_⟩
        obtain ⟨R3, fr⟩ := R1.newly (c := .lst (rangeL 0 (n - 0).toNat)) hq ⟨_, rfl, RpA.range2 0 n⟩
        exact z F1 _ (Same.refl _) R3 q fr
      · cases e
    · cases e⟩
theorem en_listRg2 (c : Kx true X G W k) (hm : X.mg "list" = none) (hm2 : X.mg "range" = none) (ha : PE X e (tI G W f)) (hb : PE X e2 (tI G W f2)) (hg : Gl X "list" := by rfl) (hg2 : Gl X "range" := by rfl) (he : starEach [e, e2] X.env = (false, eval e X.env) :: starEach [e2] X.env := by rfl)
    (heb : starEach [e2] X.env = (false, eval e2 X.env) :: starEach [] X.env := by rfl) (hpp : (backTo p3 (starEach [e2] X.env)).any (·.1) = false := by rfl)
    (he2 : starEach [.Call (.Name "range" p2) [e, e2] [] p3] X.env = (false, eval (.Call (.Name "range" p2) [e, e2] [] p3) X.env) :: starEach [] X.env := by rfl) :
    PE X (.Call (.Name "list" p) [.Call (.Name "range" p2) [e, e2] [] p3] [] pos) (tN G W (lstRgM f f2)) :=
  PE.imp (pe_listRg (c.calm rfl) hg hm (prg_2 hg2 hm2 ha hb he heb hpp) he2) fun σ H Q ⟨F, ρ, τ, R, q⟩ => ⟨F, ρ, τ, R, (Fin.bind q).imp fun d ρ1 F1 H1 s1 R1 q1 v rv => ⟨F1, ρ1, τ, R1, (Fin.bind q1).imp fun d2 ρ2 F2 H2 s2 R2 q2 w rw => by
    obtain ⟨d', e, z⟩ := Fin.lift q2
    unfold lstRg at e
    split at e
    · rename_i i j
      split at e
      · rename_i hn
        cases e
        cases rv
        cases rw
        refine ⟨i, j, rfl, rfl, ⟨by omega, by omega, by omega, by omega, by omega⟩, fun q hq => ?_⟩
        obtain ⟨R3, fr⟩ := R2.newly (c := .lst (rangeL i (j - i).toNat)) hq ⟨_, rfl, RpA.range2 i j⟩
        exact z F2 _ (Same.refl _) R3 q fr
      · cases e
    · cases e⟩⟩
end
theorem all_cons {α : Type} {P : α → Prop} {a : α} {l : List α} (h : P a) (r : ∀ g ∈ l, P g) : ∀ g ∈ a :: l, P g := fun g hg => (List.mem_cons.mp hg).elim (fun e => e ▸ h) (r g)
theorem err_raw {P : Program} {K : PySem.W.Frag} {h : Heap} {mg : Str → Option Value} {ex : Nat → Value} {x qual nm qn : Str} {n : Nat} {st : Stmt} {fs : List Str} {C fI cc cda Nn : Addr} {oc kV doc pm ct cl ccl : Value} {od an cld cdd : Option Addr} {osl csl ccs : Array (Option Value)} {vs : Array Value} {file : Str} {tf : Tok}
    {bs bm sub : List Value} {sn : List Str} {ab : Bool} {col : Option Bool} {dd : Option Addr} {z0 z1 z2 z3 z5 : Option Value}
    (X : K.In h) (G : h.Ns mainGlobals mg) (hex : ex n = (mg x).getD .none) (a : PySem.W.nsIn K mainGlobals x = some (some (.ref C)))
    (lC : K.lookup C = some (excClassObj nm qn C Nn bs bm true sn sub ab col dd z0 z1 z2 z3 z5 "ValueError.__new__")) (rf : PySem.HandSPX.refsVE bm = true) (sa : PySem.W.findIn K (.ref C) "__setattr__" = some (some (.builtin "object.__setattr__")))
    (exC : PySem.W.subIn K (.ref C) (.type "BaseException") = some true) (ty : PySem.W.typeIn K (.ref C) = some (.type "type")) (kC : PySem.W.keepIn K (.ref C) = true) (ve : PySem.W.subIn K (.ref C) (.type "ValueError") = some true)
    (sb : PySem.W.mroIn K C (.ref C) = some true) (ic : PySem.W.isClsIn K C = true) (su : PySem.W.ks_superIn K C C "__init__" = some (some (.builtin "ValueError.__init__"))) (tp : PySem.W.nsIn K cStatics "thirdparty.any" = some none)
    (ga : PySem.W.findIn K (.ref C) "__getattribute__" = some (some (.builtin "BaseException.__getattribute__"))) (gg : PySem.W.findIn K (.ref C) "__getattr__" = some none) (hd : PySem.W.hasDictIn K C = true)
    (fi : PySem.W.findIn K (.ref C) "__init__" = some (some (.ref fI))) (ti : PySem.W.typeIn K (.ref fI) = some (.type "function"))
    (lf : K.lookup fI = some ⟨oc, od, .func (PySem.W.ksFn "__init__" qual (defArgs st) (defBody st) (defScope st) .none kV doc pm an (.ref cda) ct cc), osl⟩)
    (lc : K.lookup cc = some ⟨cl, cld, .cell (some (.ref C)), csl⟩) (cdI : PySem.W.codeIn K (.ref cda) qual = true) (lcd : K.lookup cda = some ⟨ccl, cdd, .fields vs, ccs⟩) (hvs : vs[2]? = some (.str file tf)) (hfile : ((P.main.file : Str) == file) = true)
    (top : (P.main.scope.names.lookup ("super" : Str)).isSome = false) (sp : PySem.W.nsIn K mainGlobals "super" = some none) (hfs : ∀ f ∈ fs, PySem.W.findIn K (.ref C) f = some none) : ErrRaw P K mg ex x n st qual fs := by
  have hm := PySem.W.mg_of X G a
  have e' : (PySem.W.clsIn K C).isSome = true := ic
  exact ⟨C, fI, cc, cda, oc, kV, doc, pm, ct, cl, od, an, cld, osl, csl, hm, by rw [hex, hm]; rfl, ⟨⟨⟨_, _, _, _, _, _, _, _, _, _, _, _, _, _, _, lC, rf⟩, sa, exC, ty, kC⟩, ve, sb, ic, su, tp⟩, ⟨ga, gg, exC, hd⟩, fi, ti, lf, lc, cdI,
    ⟨⟨_, _, _, _, _, _, lcd, hvs, hfile⟩, top, PySem.W.mg_none_of X G sp⟩, by
      have sb' : PySem.W.subIn K (.ref C) (.ref C) = some true := sb
      simp [PySem.W.exmOne, PySem.W.kitCls, exC, ty, e', sb'], hfs⟩
/-- an error of class C1 is none of class C2 -/
theorem exm_no {K : PySem.W.Frag} {h : Heap} {mg : Str → Option Value} {ex : Nat → Value} {x1 x2 : Str} {n1 n2 : Nat} {C1 C2 : Addr} (X : K.In h) (G : h.Ns mainGlobals mg) (h1 : ex n1 = (mg x1).getD .none) (h2 : ex n2 = (mg x2).getD .none) (a1 : PySem.W.nsIn K mainGlobals x1 = some (some (.ref C1)))
    (a2 : PySem.W.nsIn K mainGlobals x2 = some (some (.ref C2))) (b1 : PySem.W.subIn K (.ref C2) (.type "BaseException") = some true) (t1 : PySem.W.typeIn K (.ref C2) = some (.type "type")) (i1 : PySem.W.isClsIn K C2 = true) (s : PySem.W.subIn K (.ref C1) (.ref C2) = some false) (t2 : PySem.W.typeIn K (.ref C1) = some (.type "type")) (i2 : PySem.W.isClsIn K C1 = true)
    (b2 : PySem.W.subIn K (.ref C1) (.type "BaseException") = some true) : ∀ C, ex n2 = .ref C → PySem.W.exmOne K (ex n1) (.ref C) = some false := fun C e => by
  have e1 : (PySem.W.clsIn K C2).isSome = true := i1
  have e2 : (PySem.W.clsIn K C1).isSome = true := i2
  rw [h2, PySem.W.mg_of X G a2] at e
  cases e
  rw [h1, PySem.W.mg_of X G a1]
  simp [PySem.W.exmOne, PySem.W.kitCls, b1, b2, t1, t2, e1, e2, s]
def hitTwo (n1 n2 : Nat) : Nat → Option Bool := fun n => if n = n1 then some true else if n = n2 then some false else none
section
variable {X : Cx} {G : Gx} {W : WX} {k : Nat} {x1 x2 y1 y2 f1 f2 : Str} {body suite : List Stmt} {b₀ : Stmt} {g h : M Out} {np1 np2 pos' pos2 q1 q2 q3 q4 q5 q6 pos : Pos} {ctx : Nat}
theorem es_try_f2h {i1 i2 n1 n2 j : Nat} {ex : Nat → Value} {sp : Addr → Sp} (c : Kx true X G W k) (E1 : ErrAt X.prog X.w X.K X.mg X.base ex x1 n1 j [f1, f2] sp) (E2 : ExcAt X.K X.mg ex x2 n2) (no : ∀ C, ex n1 = .ref C → PySem.W.exmOne X.K (ex n2) (.ref C) = some false) (hne : n1 ≠ n2) (hex : G.ex = ex)
    (hb : ∀ (pn : List (Addr × Obj)) (xe : Value → Shared → Prop) (W' : WX), Kx true (X.tr pn xe) G W' k → PassesOwn (model X.prog X.w) X.A X.env xe → PSs (X.tr pn xe) body (tS G W' g))
    (hsu : ∀ (a : Addr) (pn : List (Addr × Obj)), Kx false (X.suite a pn) G W0 k → PSs (X.suite a pn) (b₀ :: suite) (tS G W0 h))
    (hi1 : X.N[i1]? = some y1 := by rfl) (hl1 : X.env.kindOf y1 = some .local := by rfl) (hi2 : X.N[i2]? = some y2 := by rfl) (hl2 : X.env.kindOf y2 = some .local := by rfl) (g1 : Gl X x1 := by rfl) (g2 : Gl X x2 := by rfl) (db1 : (x1 == ("__debug__" : Str)) = false := by decide) (db2 : (x2 == ("__debug__" : Str)) = false := by decide)
    (hd : (y1 == ("__debug__" : Str)) = false := by decide) (hcd : (y1 == ("__classdict__" : Str)) = false := by decide) (hb1 : attributeBase (.Name y1 q2) f1 X.env (eval (.Name y1 q2) X.env) = eval (.Name y1 q2) X.env := by rfl) (hb2 : attributeBase (.Name y1 q4) f2 X.env (eval (.Name y1 q4) X.env) = eval (.Name y1 q4) X.env := by rfl)
    (hs1 : starEach [.Attribute (.Name y1 q2) f1 q1, .Attribute (.Name y1 q4) f2 q3] X.env = (false, eval (.Attribute (.Name y1 q2) f1 q1) X.env) :: starEach [.Attribute (.Name y1 q4) f2 q3] X.env := by rfl)
    (hs2 : starEach [.Attribute (.Name y1 q4) f2 q3] X.env = (false, eval (.Attribute (.Name y1 q4) f2 q3) X.env) :: starEach [] X.env := by rfl) (hs : X.stack = X.env :: X.outer := by rfl) (hf : X.env.frame = some X.env.locals := by rfl) :
    PS X (.Try body [.ExceptHandler (some (.Name x1 np1)) (some y1) [.Return (some (.Tuple [.Attribute (.Name y1 q2) f1 q1, .Attribute (.Name y1 q4) f2 q3] ctx q5)) q6] pos', .ExceptHandler (some (.Name x2 np2)) (some y2) (b₀ :: suite) pos2] [] [] pos)
      (tS G W (tryMs g [(i1, hitTwo n1 n2, .f2 f1 f2), (i2, hitOne n2, .h h)])) := by
  subst hex
  obtain ⟨C, fI, fd, ps, e1, e2, e3, e4, e5, e6, e7, e8, e9, e10⟩ := E1.e
  obtain ⟨C2, d1, d2, d3, d4, d5, d6, d7⟩ := E2.ex
  refine es_tryMs c hb (.f2 hi1 hl1 g1 db1 e1 (fun n b z => ?_) (fun n z => ?_) e4 (e10 f1 (by simp)) (e10 f2 (by simp)) hd hcd (.h hi2 hl2 g2 db2 d1 (fun n b z => hit_one E2 n b C2 d2 z) hsu .nil) hb1 hb2 hs1 hs2) hs hf
  · unfold hitTwo at z
    split at z
    · rename_i en
      cases z
      rw [en, e2]; exact e9
    · split at z
      · rename_i en
        cases z
        rw [en]; exact no C e2
      · cases z
  · unfold hitTwo at z
    split at z
    · rename_i en
      rw [en]; exact e2
    · split at z <;> cases z
end
section
variable {X : Cx} {G : Gx} {W : WX} {k n j : Nat} {x : Str} {p pos : Pos}
/-- a def without parameters -/
theorem ei_call0 {den : Den D} {ex : Nat → Value} (c : Kx true X G W k) (Df0 : Df true X.prog X.w X.K X.mg X.base x n j (spD X.K ex n den)) (hex : G.ex = ex := by rfl) (hj : j ≤ k := by decide) (hg : Gl X x := by rfl) (hdb : (x == ("__debug__" : Str)) = false := by decide) :
    PE X (.Call (.Name x p) [] [] pos) (tI G W (callM n den (M.pure []))) := by
  obtain ⟨f, fd, ps, h1, _, h2, h3, h4, h5⟩ := Df0.ex
  refine ⟨fun pins s σ H Q I q => wpAny_Call_Name_kw (ld_glob I hg h3 (PySem.W.callWith_K0 I.kIn h4 ?_) hdb)⟩
  have q1 := tCallS_D (W := W) hex σ H Q q
  rw [c.hK] at q1
  obtain ⟨F, ρ, τ, R, q2⟩ := q1
  exact run_fnS (us := []) (vs := []) (E := WE W) (h1 rfl) ((c.hr rfl).mono hj) h5 (L2N.passAt c.tk σ) I .nil ((Fin.pure q2) F H (Same.refl _) R [] .nil)
end
end Dn

/-! An instance whose fields are data and lists: the fields read, the lists written -/
namespace Dn
open PySem PySem.Spec PyProof.Rows L2
theorem lookup_fst {f : Str} : ∀ {fs : List (Str × V × Option D)} {e : V × Option D}, fs.lookup f = some e → (fs.map fun e => (e.1, e.2.1)).lookup f = some e.1 ∧ (f, e) ∈ fs
  | [], e, h => by cases h
  | (g, x) :: r, e, h => by
    rw [List.lookup_cons] at h
    rw [List.map_cons, List.lookup_cons]
    by_cases w : (f == g) = true
    · rw [w] at h ⊢
      have w' : f = g := by simpa using w
      cases h
      subst w'
      exact ⟨rfl, List.mem_cons_self⟩
    · have w2 : (f == g) = false := by simpa using w
      rw [w2] at h ⊢
      obtain ⟨h1, h2⟩ := lookup_fst h
      exact ⟨h1, List.mem_cons_of_mem _ h2⟩
/-- a field that is data -/
def fldM (C : Addr) (i : Nat) (f : Str) : M D := fun ρ => match ρ[i]? with
  | some (.ins _ C' _ fs) => if C' = C then (match fs.lookup f with
    | some (_, some d) => some (.ok d ρ)
    | _ => none) else none
  | _ => none
/-- the field f of slot i holds the object at q, which slot j stands for -/
def FldAt (ρ : Sto) (C : Addr) (i : Nat) (f : Str) (j : Nat) (q : Addr) (b : Bool) (ds : List D) : Prop := ∃ p dx fs, ρ[i]? = some (.ins p C dx fs) ∧ fs.lookup f = some (.ref q, none) ∧ ρ[j]? = some (.pin q b (.lst ds))
def fixM (C : Addr) (i : Nat) (f : Str) (j : Nat) : M (List D) := fun ρ => match ρ[i]?, ρ[j]? with
  | some (.ins _ C' _ fs), some (.pin q _ (.lst ds)) => if C' = C then (match fs.lookup f with
    | some (.ref q', none) => if q' = q then some (.ok ds ρ) else none
    | _ => none) else none
  | _, _ => none
theorem fix_at {C : Addr} {i j : Nat} {f : Str} {ρ : Sto} {r : Res (List D)} (h : fixM C i f j ρ = some r) : ∃ q b ds, FldAt ρ C i f j q b ds ∧ r = .ok ds ρ := by
  unfold fixM at h
  split at h
  · rename_i p C' dx fs q b ds e1 e2
    split at h
    · rename_i w
      subst w
      split at h
      · rename_i q' e3
        split at h
        · rename_i w
          subst w
          cases h
          exact ⟨_, _, _, ⟨_, _, _, e1, e3, e2⟩, rfl⟩
        · cases h
      · cases h
    · cases h
  · cases h
section
variable {bb : Bool} {X : Cx} {G : Gx} {W : WX} {k : Nat} {pos p p2 p3 q2 : Pos} {e b : Expr} {fa fb : M D} {C : Addr} {i j : Nat} {x f : Str}
theorem ei_fld (c : Kx bb X G W k) (hC : Cls X.K C) (hn : NoAttr X.K C f) (hN : X.N[i]? = some x := by rfl) (hv : Vis X.env.scope x := by first | exact Or.inl rfl | exact Or.inr (Or.inl rfl) | exact Or.inr (Or.inr rfl)) (hd : (x == ("__debug__" : Str)) = false := by decide)
    (hcd : (x == ("__classdict__" : Str)) = false := by decide) (hb : attributeBase (.Name x p2) f X.env (eval (.Name x p2) X.env) = eval (.Name x p2) X.env := by rfl) : PE X (.Attribute (.Name x p2) f pos) (tI G W (fldM C i f)) :=
  PE.imp (pe_fld (pe_var hN hv hd hcd) hb) fun σ H Q ⟨F, ρ, τ, R, q⟩ => by
    unfold fldM at q
    split at q
    · rename_i p' C' dx fs e1
      split at q
      · rename_i w
        subst w
        split at q
        · rename_i v d e2
          obtain ⟨h1, h2, h3⟩ := R.inst e1
          obtain ⟨h4, h5⟩ := lookup_fst e2
          exact ⟨_, h1, p', C', dx, _, v, rfl, R.sub _ _ h2, hC, hn, h4, q F H (Same.refl F) R v (h3 _ h5 d rfl)⟩
        · exact q.elim
      · exact q.elim
    · exact q.elim
/-- .. that is a list of its own -/
def tPin (G : Gx) (C : Addr) (i : Nat) (f : Str) (j : Nat) : TE := fun σ H Q => ∃ F ρ τ q b ds, Rep G F H ρ σ τ ∧ FldAt ρ C i f j q b ds ∧ Q (.ref q) H
theorem pe_pin (c : Kx bb X G W k) (hC : Cls X.K C) (hn : NoAttr X.K C f) (hN : X.N[i]? = some x := by rfl) (hv : Vis X.env.scope x := by first | exact Or.inl rfl | exact Or.inr (Or.inl rfl) | exact Or.inr (Or.inr rfl)) (hd : (x == ("__debug__" : Str)) = false := by decide)
    (hcd : (x == ("__classdict__" : Str)) = false := by decide) (hb : attributeBase (.Name x p2) f X.env (eval (.Name x p2) X.env) = eval (.Name x p2) X.env := by rfl) : PE X (.Attribute (.Name x p2) f pos) (tPin G C i f j) :=
  PE.imp (pe_fld (pe_var hN hv hd hcd) hb) fun σ H Q ⟨F, ρ, τ, q, bq, ds, R, ⟨p', dx, fs, e1, e2, e3⟩, hq⟩ => by
    obtain ⟨h1, h2, h3⟩ := R.inst e1
    obtain ⟨h4, h5⟩ := lookup_fst e2
    exact ⟨_, h1, p', C, dx, _, _, rfl, R.sub _ _ h2, hC, hn, h4, hq⟩
theorem FldAt.lst {F H : Hp} {ρ : Sto} {σ : L2.St} {τ : Tmp} {q : Addr} {bq : Bool} {ds : List D} (h : FldAt ρ C i f j q bq ds) (R : Rep G F H ρ σ τ) : σ[j]? = some (some (.ref q)) ∧ ∃ vs, H q = some (.lst vs) ∧ RpA G.K F vs ds := by
  obtain ⟨_, _, _, _, _, e3⟩ := h
  obtain ⟨h1, o, h2, ⟨vs, h3, h4⟩, _⟩ := R.pinn e3
  subst h3
  exact ⟨h1, vs, h2, h4⟩
/-- as it stands -/
theorem ek_fld (c : Kx bb X G W k) (h : PE X e (tPin G C i f j)) : PE X e (tK G W (M.map (fixM C i f j) D.lst)) := PE.imp h fun σ H Q ⟨F, ρ, τ, R, q⟩ => by
  have q1 := Fin.bind q
  cases z : fixM C i f j ρ with
  | none => rw [z] at q1; exact q1.elim
  | some r =>
    rw [z] at q1
    obtain ⟨a, bq, ds, h1, rfl⟩ := fix_at z
    obtain ⟨h2, vs, h3, h4⟩ := h1.lst R
    exact ⟨F, ρ, τ, a, bq, ds, R, h1, Fin.pure (q1 F H (Same.refl _) R) F H (Same.refl _) R _ (.lst h3 (h4.mono R.sub))⟩
/-- self.f[b] -/
def fixIx (C : Addr) (i : Nat) (f : Str) (j : Nat) (fb : M D) : M D := M.bind (fixM C i f j) fun _ => M.bind fb fun y => M.bind (fixM C i f j) fun ds => M.lift (ixD (.lst ds) y)
theorem ei_fldIx (c : Kx bb X G W k) (h : PE X e (tPin G C i f j)) (hb : PE X b (tI G W fb)) (hs : PlainIx b := by intro _ _; rfl) : PE X (.Subscript e b pos) (tI G W (fixIx C i f j fb)) :=
  PE.imp (pe_ix (ixA c.u64) h hb hs) fun σ H Q ⟨F, ρ, τ, R, q⟩ => by
    have q1 := Fin.bind q
    cases z : fixM C i f j ρ with
    | none => rw [z] at q1; exact q1.elim
    | some r =>
      rw [z] at q1
      obtain ⟨a, bq, ds, h1, rfl⟩ := fix_at z
      obtain ⟨h2, _⟩ := h1.lst R
      refine ⟨F, ρ, τ, a, bq, ds, R, h1, F, ρ, τ, R, (Fin.bind (q1 F H (Same.refl _) R)).imp fun y ρ1 F1 H1 s1 R1 q2 w rw => ?_⟩
      have q3 := Fin.bind q2
      cases z2 : fixM C i f j ρ1 with
      | none => rw [z2] at q3; exact q3.elim
      | some r2 =>
        rw [z2] at q3
        obtain ⟨a2, b2, ds2, h3, rfl⟩ := fix_at z2
        obtain ⟨h4, vs, h5, h6⟩ := h3.lst R1
        have ea : V.ref a = .ref a2 := Option.some.inj (Option.some.inj (h2.symm.trans h4))
        cases ea
        obtain ⟨d, e1, q4⟩ := Fin.lift (q3 F1 H1 (Same.refl _) R1)
        rw [← c.hK]
        exact co_ix (c := .lst ds2) R1.sub h5 ⟨vs, rfl, h6⟩ rw e1 fun u ru => q4 F1 H1 (Same.refl _) R1 u ru
/-- tuple(self.f) -/
theorem ei_fldTup (c : Kx bb X G W k) (hm : X.mg "tuple" = none) (h : PE X e (tPin G C i f j)) (hg : Gl X "tuple" := by rfl) (he : starEach [e] X.env = (false, eval e X.env) :: starEach [] X.env := by rfl) :
    PE X (.Call (.Name "tuple" p) [e] [] pos) (tI G W (M.map (fixM C i f j) D.tup)) :=
  PE.imp (pe_callTy call_tuple_of hg hm PyProof.Rows.boot_tuple (pa_cons h pa_nil he) (by decide) (by decide) he rfl) fun σ H Q ⟨F, ρ, τ, R, q⟩ => by
    have q1 := Fin.bind q
    cases z : fixM C i f j ρ with
    | none => rw [z] at q1; exact q1.elim
    | some r =>
      rw [z] at q1
      obtain ⟨a, bq, ds, h1, rfl⟩ := fix_at z
      obtain ⟨h2, vs, h3, h4⟩ := h1.lst R
      refine ⟨F, ρ, τ, a, bq, ds, R, h1, a, vs, rfl, .inl ⟨.of h3, fun l hl => ?_⟩⟩
      have ex : Ext F H (upd F l (.tup vs)) (upd H l (.tup vs)) := Ext.new _ R.sub hl
      exact Fin.pure (q1 F H (Same.refl _) R) (upd F l (.tup vs)) _ ex.f (R.ext ex) _ (.tup upd_same (h4.mono (same_upd (R.sub.free hl))))
/-- len of a set of pairs -/
def rLenST (P : Program) (w : World) (K : PySem.W.Frag) : List V → Hp → VK → Prop := fun xs H Q => ∃ (a : Addr) (L : List (Addr × List Int)), xs = [.ref a] ∧ H a = some (SetTO P w a L) ∧ (∀ p ∈ L, SqT K H p.1 (p.2.map V.int)) ∧ ((L.map (·.2)).Nodup → Q (.int L.length) H)
theorem cr_lenST : CallR X (.builtin "len") (rLenST X.prog X.w X.K) := fun ps s σ H xs us Q I r ⟨a, L, e, ha, each, q⟩ => by
  subst e
  cases r with
  | cons r1 r2 =>
    cases r2
    cases r1
    have hk := I.hok _ _ ha
    have h0 : SetT0 X.prog X.w s.heap a L := hk.1
    obtain ⟨es, ep, t, R⟩ := h0.full fun p hp => I.isT (each p hp)
    obtain ⟨o, ho, hex, hd⟩ := R.ob
    have sz := SetTR.size (s := s) R
    have fit := SetTR.fits (s := s) R
    have few2 := R.few
    exact call_len_set ho hex hd fit (by omega) ⟨.int L.length, H, I.tok _, ⟨_, by rw [sz]⟩, q R.nd⟩
def lenSetL (ds : List D) : Option D := match pairsOf ds with
  | some zs => if zs.length < 64 then some (.int (once zs).length) else none
  | none => none
theorem ei_fldLenSet (c : Kx true X G W k) (hm : X.mg "len" = none) (hm2 : X.mg "set" = none) (h : PE X e (tPin G C i f j)) (hg : Gl X "len" := by rfl) (hg2 : Gl X "set" := by rfl) (he : starEach [e] X.env = (false, eval e X.env) :: starEach [] X.env := by rfl)
    (he2 : starEach [.Call (.Name "set" p2) [e] [] q2] X.env = (false, eval (.Call (.Name "set" p2) [e] [] q2) X.env) :: starEach [] X.env := by rfl) :
    PE X (.Call (.Name "len" p) [.Call (.Name "set" p2) [e] [] q2] [] pos) (tI G W (M.bind (fixM C i f j) fun ds => M.lift (lenSetL ds))) :=
  PE.imp (pe_callB cr_lenST hg hm PySem.boot_len (pa_cons (pe_callTy (cr_setOfT (c.calm rfl) c.u64) hg2 hm2 PyProof.Rows.boot_set (pa_cons h pa_nil he) (by decide) (by decide) he rfl) pa_nil he2) (by decide) (by decide) he2 rfl) fun σ H Q ⟨F, ρ, τ, R, q⟩ => by
    have q1 := Fin.bind q
    cases z : fixM C i f j ρ with
    | none => rw [z] at q1; exact q1.elim
    | some r =>
      rw [z] at q1
      obtain ⟨a, bq, ds, h1, rfl⟩ := fix_at z
      obtain ⟨h2, vs, h3, h4⟩ := h1.lst R
      obtain ⟨d', ed, q2⟩ := Fin.lift (q1 F H (Same.refl _) R)
      unfold lenSetL at ed
      split at ed
      · rename_i zs hp
        split at ed
        · rename_i hn
          cases ed
          have el := pairsOf_eq hp
          subst el
          obtain ⟨ks, e1, e2, e3⟩ := refs_pairs h4
          subst e1
          have ln : ks.length = zs.length := by
            have := congrArg List.length e2
            rwa [List.length_map, List.length_map] at this
          refine ⟨F, ρ, τ, a, bq, _, R, h1, a, ks, rfl, .of h3, fun q hq => .of (R.sub _ _ (e3 q hq)), by rw [ln]; exact hn, fun s L hA sub all => ?_⟩
          have R2 : Rep G F (upd H s (SetTO X.prog X.w s L)) ρ σ τ := R.ext (Ext.loose _ R.sub hA)
          refine ⟨s, L, rfl, upd_same, fun q hq => .of (R2.sub _ _ (e3 q (sub q hq))), fun nd => ?_⟩
          have n : L.length = (once zs).length := by
            have a1 : L.length = (once (ks.map (·.2))).length := by
              rw [← List.length_map (f := (·.2))]
              refine Nat.le_antisymm (len_le nd fun x hx => ?_) (len_le (nodup_once _) fun x hx => ?_)
              · obtain ⟨p, hp, rfl⟩ := List.mem_map.mp hx
                exact mem_once.mpr (List.mem_map_of_mem (sub p hp))
              · obtain ⟨p, hp, rfl⟩ := List.mem_map.mp (mem_once.mp hx)
                exact all p hp
            rw [a1, e2, once_map (fun z : Int × Int => [z.1, z.2]) (fun x y h => by
              simp only [List.cons.injEq, and_true] at h
              exact Prod.ext h.1 h.2) zs]
          rw [n]
          exact q2 F _ (Same.refl _) R2 _ (.int _)
        · cases ed
      · cases ed
/-- self.f.append(e) -/
def pushF (j : Nat) (d : D) : M D := fun ρ => match ρ[j]? with
  | some (.pin q b (.lst ds)) => if ds.length ≤ 100000 then some (.ok .non (ρ.set j (.pin q b (.lst (ds ++ [d]))))) else none
  | _ => none
theorem ei_fldApp (c : Kx bb X G W k) (h : PE X e (tPin G C i f j)) (ha : PE X b (tI G W fb))
    (hbase : attributeBase e "append" X.env (eval e X.env) = eval e X.env := by rfl)
    (hfew : ((backTo pos (starEach [b] X.env)).all (fun x => !x.1) && (backToKw pos (keywordEach [] X.env)).all (fun x => x.1.isSome) && decide (([b] : List Expr).length + ([] : List Keyword).length + (if ([] : List Keyword).isEmpty then 0 else 1) < 30)) = true := by rfl)
    (hline : (p.endLine == pos.line) = true := by rfl) (hs : starEach [b] X.env = (false, eval b X.env) :: starEach [] X.env := by rfl) (hplain : (backTo pos (starEach [] X.env)).any (·.1) = false := by rfl) :
    PE X (.Call (.Attribute e "append" p) [b] [] pos) (tI G W (M.bind (fixM C i f j) fun _ => M.bind fb (pushF j))) :=
  PE.imp (pe_bm PySem.F.plainAttrs_list PySem.F.slot_list_append PySem.F.type_list_append mtR_append h (pa_cons ha pa_nil hs) hbase hfew hline hs hplain) fun σ H Q ⟨F, ρ, τ, R, q⟩ => by
    have q1 := Fin.bind q
    cases z : fixM C i f j ρ with
    | none => rw [z] at q1; exact q1.elim
    | some r =>
      rw [z] at q1
      obtain ⟨a, bq, ds, h1, rfl⟩ := fix_at z
      obtain ⟨h2, vs0, h3, _⟩ := h1.lst R
      refine ⟨F, ρ, τ, a, bq, ds, R, h1, .inl ⟨rfl, _, .of h3⟩, F, ρ, τ, R, (Fin.bind (q1 F H (Same.refl _) R)).imp fun d ρ1 F1 H1 s1 R1 q2 v rv => ?_⟩
      unfold pushF at q2
      split at q2
      · rename_i a2 b2 ds2 e1
        split at q2
        · rename_i hl
          obtain ⟨g1, o, g2, ⟨vs, g3, g4⟩, g5, g6⟩ := R1.pinn e1
          subst g3
          have ea : V.ref a = V.ref a2 := Option.some.inj (Option.some.inj (h2.symm.trans g1))
          cases ea
          have R2 := R1.writep (o := .lst (vs ++ [v])) (c' := .lst (ds2 ++ [d])) e1 ⟨_, rfl, g4.append (.one rv)⟩
          exact ⟨a, vs, v, rfl, rfl, g2, by rw [g4.length]; exact ltline hl, q2 F1 _ (Same.refl _) R2 _ .non⟩
        · exact q2.elim
      · exact q2.elim
/-- self.f.pop() -/
def popF (C : Addr) (i : Nat) (f : Str) (j : Nat) : M D := M.bind (fixM C i f j) fun _ => fun ρ => match ρ[j]? with
  | some (.pin q b (.lst ds)) => (ds[ds.length - 1]?).map fun d => .ok d (ρ.set j (.pin q b (.lst ds.dropLast)))
  | _ => none
theorem ei_fldPop (c : Kx bb X G W k) (h : PE X e (tPin G C i f j)) (hbase : attributeBase e "pop" X.env (eval e X.env) = eval e X.env := by rfl) (hline : (p.endLine == pos.line) = true := by rfl) :
    PE X (.Call (.Attribute e "pop" p) [] [] pos) (tI G W (popF C i f j)) :=
  PE.imp (pe_bm0 PySem.F.plainAttrs_list PySem.F.slot_list_pop PySem.F.type_list_pop mtR_pop h hbase hline) fun σ H Q ⟨F, ρ, τ, R, q⟩ => by
    have q1 := Fin.bind q
    cases z : fixM C i f j ρ with
    | none => rw [z] at q1; exact q1.elim
    | some r =>
      rw [z] at q1
      obtain ⟨a, bq, ds, h1, rfl⟩ := fix_at z
      have q2 := q1 F H (Same.refl _) R
      obtain ⟨_, _, _, _, _, e3⟩ := id h1
      simp only [e3] at q2
      obtain ⟨g1, o, g2, ⟨vs, g3, g4⟩, g5, g6⟩ := R.pinn e3
      subst g3
      cases z2 : ds[ds.length - 1]? with
      | none => rw [z2] at q2; exact q2.elim
      | some d =>
        rw [z2] at q2
        obtain ⟨v, hv, rv⟩ := g4.get z2
        have R2 := R.writep (o := .lst vs.dropLast) (c' := .lst ds.dropLast) e3 ⟨_, rfl, g4.dropLast⟩
        exact ⟨F, ρ, τ, a, bq, ds, R, h1, .inl ⟨rfl, _, .of g2⟩, a, vs, v, rfl, rfl, g2, by rw [g4.length]; exact hv, q2 F _ (Same.refl _) R2 v rv⟩
end
end Dn

/-! An instance of one value and two lists: its methods, their calls -/
namespace Dn
open PySem PySem.Spec PyProof.Rows L2
theorem ghost_inv {X : Cx} {pins : List (Addr × Obj)} {σ σ' : L2.St} {H : Hp} {s : Shared} (I : L2.Inv X pins σ H s) (hl : σ'.length = σ.length) (h : ∀ (i : Nat) (x : Str), X.N[i]? = some x → Vis X.env.scope x → σ'[i]? = σ[i]?) : L2.Inv X pins σ' H s :=
  { I with
    loc := by
      obtain ⟨m, h1, h2⟩ := I.loc
      exact ⟨m, h1, fun i x v hx hs hv => h2 i x v hx (by rw [← h i x hx hv]; exact hs) hv⟩
    len := hl.trans I.len }
/-- slots that no name of the text reads -/
theorem pss_ghost {X : Cx} {st : List Stmt} {t : TS} (hp : PSs X st t) : PSs X st (fun E σ H => ∃ σ' : L2.St, σ'.length = σ.length ∧ (∀ (i : Nat) (x : Str), X.N[i]? = some x → Vis X.env.scope x → σ'[i]? = σ[i]?) ∧ t E σ' H) :=
  ⟨fun pins s σ H E I ⟨σ', hl, h, q⟩ => hp.run pins s σ' H E (ghost_inv I hl h) q⟩
/-- address, dict, value, list, list: what they hold; arguments -/
abbrev DenW := Addr → Addr → V → Addr → Addr → D → List D → List D → List D → Option (Except Exn D × List D × List D)
def wfs (f1 f2 f3 : Str) (tv : V) (T : D) (q r : Addr) : List (Str × V × Option D) := [(f1, tv, some T), (f2, .ref q, none), (f3, .ref r, none)]
def EndR (K : PySem.W.Frag) (ex : Nat → Value) (Q : VK) (E : XK) (F' H' : Hp) : Except Exn D → Prop
  | .ok d => ∀ v, Rp K F' v d → Q v H'
  | .error e => ∀ cls dd, ExR K ex F' H' e cls dd → E cls dd H'
def EndM (K : PySem.W.Frag) (ex : Nat → Value) (F H : Hp) (q r : Addr) (Q : VK) (E : XK) : Except Exn D × List D × List D → Prop := fun z => ∀ F' H' sv' pv', Same F F' → Same F' H' → (∀ a, F' a ≠ none → F a = none → H a = none) → (∀ a o, a ≠ q → a ≠ r → H a = some o → H' a = some o) → F' q = none → F' r = none →
  H' q = some (.lst sv') → RpA K F' sv' z.2.1 → H' r = some (.lst pv') → RpA K F' pv' z.2.2 → EndR K ex Q E F' H' z.1
def spM (K : PySem.W.Frag) (ex : Nat → Value) (C : Addr) (f1 f2 f3 : Str) (n : Nat) (den : DenW) : Sp := fun vs H Q E => ∃ F p dx tv T q r sl pl sv pv us ds, Same F H ∧ vs = .ref p :: us ∧ F p = some (.ins C dx ((wfs f1 f2 f3 tv T q r).map fun e => (e.1, e.2.1))) ∧ Rp K F tv T ∧ q ≠ r ∧
  H q = some (.lst sv) ∧ RpA K F sv sl ∧ F q = none ∧ H r = some (.lst pv) ∧ RpA K F pv pl ∧ F r = none ∧ RpA K F us ds ∧ ds.length + 1 = n ∧ (match den p dx tv q r T sl pl ds with
  | none => False
  | some z => EndM K ex F H q r Q E z)
def startM (n : Nat) (C : Addr) (f1 f2 f3 : Str) (p dx : Addr) (tv : V) (q r : Addr) (T : D) (sl pl ds : List D) : Sto :=
  Slot.ins p C dx (wfs f1 f2 f3 tv T q r) :: ((ds.map Slot.val ++ List.replicate (n - (ds.length + 3)) Slot.emp) ++ [Slot.pin q true (.lst sl), Slot.pin r true (.lst pl)])
def lastP (ρ : Sto) (j : Nat) (q : Addr) : Option (List D) := match ρ[j]? with
  | some (.pin q' true (.lst l)) => if q' = q then some l else none
  | _ => none
def outD : Out → Option D
  | .nx => some .non
  | .ret d => some d
  | _ => none
def endW (n : Nat) (q r : Addr) (ρ : Sto) (e : Except Exn D) : Option (Except Exn D × List D × List D) := (lastP ρ (n - 2) q).bind fun a => (lastP ρ (n - 1) r).map fun b => (e, a, b)
def runM (n : Nat) (C : Addr) (f1 f2 f3 : Str) (g : M Out) : DenW := fun p dx tv q r T sl pl ds => match g (startM n C f1 f2 f3 p dx tv q r T sl pl ds) with
  | none => none
  | some (.exc e ρ') => endW n q r ρ' (.error e)
  | some (.ok o ρ') => (outD o).bind fun d => endW n q r ρ' (.ok d)
theorem last_at {ρ : Sto} {j : Nat} {q : Addr} {l : List D} (h : lastP ρ j q = some l) : ρ[j]? = some (.pin q true (.lst l)) := by
  unfold lastP at h
  split at h
  · rename_i q' l' e
    split at h
    · rename_i w
      subst w
      cases h
      exact e
    · cases h
  · cases h
section
variable {P : Program} {w : World} {K : PySem.W.Frag} {mg : Str → Option Value} {base : Heap} {ex : Nat → Value} {x qual : Str} {st : Stmt} {f C : Addr} {fd : FuncData} {N ps : List Str} {k : Nat} {g : M Out} {f1 f2 f3 : Str}
theorem endW_end {F H : Hp} {q r : Addr} {Q : VK} {E : XK} {n : Nat} {ρ' : Sto} {e : Except Exn D} {F' H' : Hp} {σ' : L2.St} {τ : Tmp} (z : match endW n q r ρ' e with
    | none => False
    | some z => EndM K ex F H q r Q E z) (s : Same F F') (R : Rep ⟨K, F, H, [q, r], ex⟩ F' H' ρ' σ' τ) : EndR K ex Q E F' H' e := by
  unfold endW at z
  cases e1 : lastP ρ' (n - 2) q with
  | none => rw [e1] at z; exact z.elim
  | some a =>
    rw [e1] at z
    cases e2 : lastP ρ' (n - 1) r with
    | none => simp only [Option.bind_some, e2, Option.map_none] at z
    | some b =>
      simp only [Option.bind_some, e2, Option.map_some] at z
      obtain ⟨_, o1, g2, ⟨sv, g3, g4⟩, g5, _⟩ := R.pinn (last_at e1)
      obtain ⟨_, o2, k2, ⟨pv, k3, k4⟩, k5, _⟩ := R.pinn (last_at e2)
      subst g3; subst k3
      exact z F' H' sv pv s R.sub R.newF (fun a o h1 h2 h3 => R.keep a o (by simp only [List.mem_cons, List.not_mem_nil, or_false, not_or]; exact ⟨h1, h2⟩) h3) g5 k5 g2 g4 k2 k4
theorem startM_rep {F H : Hp} {p dx q r : Addr} {tv : V} {T : D} {sl pl ds : List D} {sv pv us : List V} {n : Nat} (sF : Same F H) (hp : F p = some (.ins C dx ((wfs f1 f2 f3 tv T q r).map fun e => (e.1, e.2.1)))) (rT : Rp K F tv T) (ne : q ≠ r)
    (hq : H q = some (.lst sv)) (rs : RpA K F sv sl) (fq : F q = none) (hr : H r = some (.lst pv)) (rp : RpA K F pv pl) (fr : F r = none) (ru : RpA K F us ds) :
    Rep ⟨K, F, H, [q, r], ex⟩ F H (startM n C f1 f2 f3 p dx tv q r T sl pl ds) (some (.ref p) :: ((us.map some ++ List.replicate (n - (ds.length + 3)) none) ++ [some (.ref q), some (.ref r)])) [] := by
  have l1 : (ds.map Slot.val ++ List.replicate (n - (ds.length + 3)) Slot.emp).length = (us.map some ++ List.replicate (n - (ds.length + 3)) (none : Option V)).length := by
    rw [List.length_append, List.length_append, List.length_map, List.length_map, List.length_replicate, List.length_replicate, ru.length]
  have sl' : ∀ {i : Nat} {t : Slot}, (startM n C f1 f2 f3 p dx tv q r T sl pl ds)[i]? = some t → ∃ ov, (some (.ref p) :: ((us.map some ++ List.replicate (n - (ds.length + 3)) none) ++ [some (.ref q), some (.ref r)]))[i]? = some ov ∧ SlotR ⟨K, F, H, [q, r], ex⟩ F H ov t ∧
      (t.ow = true → (i = (ds.map Slot.val ++ List.replicate (n - (ds.length + 3)) Slot.emp).length + 1 ∧ ov = some (.ref q)) ∨ (i = (ds.map Slot.val ++ List.replicate (n - (ds.length + 3)) Slot.emp).length + 2 ∧ ov = some (.ref r))) := fun {i t} h => by
    unfold startM at h
    cases i with
    | zero =>
      cases h
      refine ⟨_, rfl, ⟨rfl, hp, fun e he d hd => ?_⟩, fun z => nomatch z⟩
      unfold wfs at he
      rcases List.mem_cons.mp he with rfl | he
      · cases hd; exact rT
      · rcases List.mem_cons.mp he with rfl | he
        · cases hd
        · rw [List.mem_singleton] at he
          subst he
          cases hd
    | succ i =>
      rw [List.getElem?_cons_succ] at h ⊢
      by_cases hi : i < (ds.map Slot.val ++ List.replicate (n - (ds.length + 3)) Slot.emp).length
      · rw [List.getElem?_append_left hi] at h
        rw [List.getElem?_append_left (by rw [← l1]; exact hi)]
        obtain ⟨ov, h1, h2, h3⟩ := start_slot (G := ⟨K, F, H, [q, r], ex⟩) (H := H) ru h
        exact ⟨ov, h1, h2, fun z => by rw [h3] at z; cases z⟩
      · rw [List.getElem?_append_right (by omega)] at h
        rw [List.getElem?_append_right (by rw [← l1]; omega), ← l1]
        generalize hj : i - (ds.map Slot.val ++ List.replicate (n - (ds.length + 3)) Slot.emp).length = j at h ⊢
        match j, hj, h with
        | 0, hj, h =>
          cases h
          exact ⟨_, rfl, ⟨rfl, _, hq, ⟨sv, rfl, rs⟩, fq, List.mem_cons_self⟩, fun _ => .inl ⟨by omega, rfl⟩⟩
        | 1, hj, h =>
          cases h
          exact ⟨_, rfl, ⟨rfl, _, hr, ⟨pv, rfl, rp⟩, fr, List.mem_cons_of_mem _ List.mem_cons_self⟩, fun _ => .inr ⟨by omega, rfl⟩⟩
        | j + 2, hj, h => cases h
  refine ⟨sF, Same.refl _, fun a h1 h2 => absurd h2 h1, fun a o _ h => h, fun a h => h, ?_, fun i t h => ?_, fun i j t u hij hi hj ht hu => ?_, fun t ht => (nomatch ht), List.nodup_nil⟩
  · unfold startM
    simp only [List.length_cons, List.length_append, List.length_map, List.length_replicate, List.length_nil, ru.length]
  · obtain ⟨ov, h1, h2, _⟩ := sl' h
    exact ⟨ov, h1, h2⟩
  · obtain ⟨ov1, a1, _, a3⟩ := sl' hi
    obtain ⟨ov2, b1, _, b3⟩ := sl' hj
    rw [a1, b1]
    rcases a3 ht with ⟨a4, rfl⟩ | ⟨a4, rfl⟩ <;> rcases b3 hu with ⟨b4, rfl⟩ | ⟨b4, rfl⟩
    · exact absurd (a4.trans b4.symm) hij
    · intro z; cases z; exact ne rfl
    · intro z; cases z; exact ne rfl
    · exact absurd (a4.trans b4.symm) hij
theorem fn_M (Fn : Fun K x qual st f fd) (S : FnScope N ps (defScope st)) (hl : ps.length + 2 ≤ N.length) (hg : ∀ (i : Nat) (y : Str), N[i]? = some y → N.length ≤ i + 2 → ¬ Vis (defScope st) y)
    (hb : ∀ (cdv : Value) (A : Around) (outer : List Env) (s : Shared) (H : Hp) (E : XK) (pn : List (Addr × Obj)) (G : Gx), G.ex = ex → Kx true (cxB true (L2N.CX P w) P w K mg base N qual (defScope st) f cdv A outer s H E pn) G (WD E) k →
      PSs (cxB true (L2N.CX P w) P w K mg base N qual (defScope st) f cdv A outer s H E pn) (defBody st) (tS G (WD E) g)) : FnOk P w K mg base (L2N.CX P w) (k + 1) f fd ps (spM K ex C f1 f2 f3 ps.length (runM N.length C f1 f2 f3 g)) := by
  refine (fn_B (bb := true) Fn S (fun vs H Q E ⟨F, p, dx, tv, T, q, r, sl, pl, sv, pv, us, ds, sF, e, hp, rT, ne, hq, rs, fq, hr, rp, fr, ru, hn, z⟩ => by rw [e, List.length_cons, ru.length]; exact hn)
    fun cdv A outer s H vs Q E pn hkx ⟨F, p, dx, tv, T, q, r, sl, pl, sv, pv, us, ds, sF, e, hp, rT, ne, hq, rs, fq, hr, rp, fr, ru, hn, z⟩ => ⟨_, pss_ghost (hb cdv A outer s H E pn ⟨K, F, H, [q, r], ex⟩ rfl (hkx _ rfl)), (some (.ref p) :: ((us.map some ++ List.replicate (N.length - (ds.length + 3)) none) ++ [some (.ref q), some (.ref r)])), ?_, ?_, F, startM N.length C f1 f2 f3 p dx tv q r T sl pl ds, [], startM_rep sF hp rT ne hq rs fq hr rp fr ru, ?_⟩).1 rfl
  · subst e
    unfold L2.start
    simp only [List.length_cons, List.length_append, List.length_map, List.length_replicate, List.length_nil, ru.length]
    omega
  · intro i y hy hv
    have hi : i + 2 < N.length := by
      have : ¬ N.length ≤ i + 2 := fun z => hg i y hy z hv
      omega
    subst e
    unfold L2.start
    cases i with
    | zero => rfl
    | succ i =>
      rw [List.map_cons, List.cons_append, List.getElem?_cons_succ, List.getElem?_cons_succ]
      have ll : (us.map some ++ List.replicate (N.length - (ds.length + 3)) (none : Option V)).length = N.length - 3 := by
        rw [List.length_append, List.length_map, List.length_replicate, ru.length]
        omega
      rw [List.getElem?_append_left (by rw [ll]; omega)]
      by_cases hu : i < us.length
      · rw [List.getElem?_append_left (by rw [List.length_map]; exact hu), List.getElem?_append_left (by rw [List.length_map]; exact hu)]
      · rw [List.getElem?_append_right (by rw [List.length_map]; omega), List.getElem?_append_right (by rw [List.length_map]; omega), List.getElem?_replicate, List.getElem?_replicate, List.length_map, List.length_cons, ru.length]
        have := ru.length
        rw [if_pos (by omega), if_pos (by omega)]
  · unfold runM at z
    match zz : g (startM N.length C f1 f2 f3 p dx tv q r T sl pl ds) with
    | none => rw [zz] at z; exact z.elim
    | some (.exc er ρ') => rw [zz] at z; exact fun F' H' σ' cls dd s' R' xr => endW_end z s' R' cls dd xr
    | some (.ok .nx ρ') => rw [zz] at z; exact fun F' H' σ' s' R' => endW_end (e := .ok .non) z s' R' _ .non
    | some (.ok (.ret d) ρ') => rw [zz] at z; exact fun F' H' σ' v s' R' rv => endW_end (e := .ok d) z s' R' v rv
    | some (.ok (.retN c) ρ') => rw [zz] at z; exact z.elim
    | some (.ok .bk ρ') => rw [zz] at z; exact z.elim
    | some (.ok .ct ρ') => rw [zz] at z; exact z.elim
end
end Dn

/-! Such an instance: methods and properties called -/
namespace Dn
open PySem PySem.Spec PyProof.Rows L2
structure MtAt (P : Program) (w : World) (K : PySem.W.Frag) (mg : Str → Option Value) (base : Heap) (C : Addr) (m : Str) (j : Nat) (sp : Sp) : Prop where
  ex : ∃ f fd ps, FnOk P w K mg base (L2N.CX P w) j f fd ps sp ∧ Meth K C m f ∧ L2.Binds K fd ps []
structure PrAt (P : Program) (w : World) (K : PySem.W.Frag) (mg : Str → Option Value) (base : Heap) (C : Addr) (m : Str) (j : Nat) (sp : Sp) : Prop where
  ex : ∃ pa f fd ps, FnOk P w K mg base (L2N.CX P w) j f fd ps sp ∧ PropOf K C m pa f ∧ L2.Binds K fd ps []
section
variable {X : Cx} {G : Gx} {W : WX} {k j : Nat} {pos apos p p2 : Pos} {o e : Expr} {es : List Expr} {ta : TE} {t : TA} {C : Addr} {m : Str} {sp : Sp}
def tMtW (W : WX) (C : Addr) (m : Str) (sp : Sp) (ta : TE) (t : TA) : TE := fun σ H Q => ta σ H fun x H1 => ∃ a dx fs, x = .ref a ∧ H1 a = some (.ins C dx fs) ∧ fs.lookup m = none ∧ t σ H1 fun vs H2 => sp (x :: vs) H2 Q (WE W σ)
theorem pe_mtW {pl : Sem Bool} (he : PE X o ta) (cl : Cls X.K C) (Mt : MtAt X.prog X.w X.K X.mg X.base C m j sp) (hr : Room j X.A) (tk : L2N.Takes X W) (ha : PA X (e :: es) t)
    (h1 : starEach (e :: es) X.env = (false, eval e X.env) :: starEach es X.env := by rfl) (h2 : (backTo pos (starEach es X.env)).any (·.1) = false := by rfl)
    (h3 : eval (.Call (.Attribute o m apos) (e :: es) [] pos) X.env = ((eval o X.env) >>= fun ov => (standAt apos.atName) >>= fun _ => (holding [ov] (getMethod ov m pl)) >>= fun z => callWith pos z.1 z.2 (backTo pos (starEach (e :: es) X.env)) (backToKw pos (keywordEach [] X.env))) := by rfl) :
    PE X (.Call (.Attribute o m apos) (e :: es) [] pos) (tMtW W C m sp ta t) := by
  obtain ⟨f, fd, ps, Fn, mt, bn⟩ := Mt.ex
  refine ⟨fun pins s σ H Q I h => PySem.W.methodCall_KW (pl := pl) (thn (he.run pins s σ H _ I h) fun u s1 ⟨x, H1, I1, rx, a, dx, fs, ex, ea, l, q⟩ => ?_) h3⟩
  subst ex
  cases rx
  refine getmeth_ok I1 ea cl mt l (PySem.W.callWith_K (first := [.ref a]) (h₀ := X.base) I1.ok.mod.kin mt.kp ?_ h1 h2)
  exact thn (ha.run pos pins s1 σ H1 _ I1 q) fun us s2 ⟨vs, H2, I2, r, q2⟩ => ⟨I2.kIn, run_fnS (us := .ref a :: us) (vs := .ref a :: vs) Fn hr bn (L2N.passAt tk σ) I2 (.cons rfl r) q2⟩
theorem pe_mtW0 {pl : Sem Bool} (he : PE X o ta) (cl : Cls X.K C) (Mt : MtAt X.prog X.w X.K X.mg X.base C m j sp) (hr : Room j X.A) (tk : L2N.Takes X W)
    (h3 : eval (.Call (.Attribute o m apos) [] [] pos) X.env = ((eval o X.env) >>= fun ov => (standAt apos.atName) >>= fun _ => (holding [ov] (getMethod ov m pl)) >>= fun z => callWith pos z.1 z.2 (backTo pos (starEach [] X.env)) (backToKw pos (keywordEach [] X.env))) := by rfl) :
    PE X (.Call (.Attribute o m apos) [] [] pos) (tMtW W C m sp ta tNil) := by
  obtain ⟨f, fd, ps, Fn, mt, bn⟩ := Mt.ex
  refine ⟨fun pins s σ H Q I h => PySem.W.methodCall_KW (pl := pl) (thn (he.run pins s σ H _ I h) fun u s1 ⟨x, H1, I1, rx, a, dx, fs, ex, ea, l, q⟩ => ?_) h3⟩
  subst ex
  cases rx
  refine getmeth_ok I1 ea cl mt l (PySem.W.callWith_K0 (first := [.ref a]) I1.kIn mt.kp ?_)
  exact run_fnS (us := [.ref a]) (vs := [.ref a]) Fn hr bn (L2N.passAt tk σ) I1 (.cons rfl .nil) q
end
section
variable {G : Gx} {F F' H H' : Hp} {ρ : Sto} {σ : L2.St} {τ : Tmp}
theorem Rep.wrote2 (R : Rep G F H ρ σ τ) {j1 j2 : Nat} {q r : Addr} {b1 b2 : Bool} {c1 c2 c1' c2' : Co} {o1' o2' : HO} (h1 : ρ[j1]? = some (.pin q b1 c1)) (h2 : ρ[j2]? = some (.pin r b2 c2)) (hj : j1 ≠ j2) (sF : Same F F') (sH : Same F' H') (new : ∀ a, F' a ≠ none → F a = none → H a = none)
    (keep : ∀ a o, a ≠ q → a ≠ r → H a = some o → H' a = some o) (fq : F' q = none) (fr : F' r = none) (hq : H' q = some o1') (k1 : CoR G.K F' o1' c1') (hr : H' r = some o2') (k2 : CoR G.K F' o2' c2') :
    Rep G F' H' ((ρ.set j1 (.pin q b1 c1')).set j2 (.pin r b2 c2')) σ τ := by
  obtain ⟨s1, o1, g1, _, _, _⟩ := R.pinn h1
  obtain ⟨s2, o2, g2, _, _, _⟩ := R.pinn h2
  have ne : q ≠ r := fun w => R.apart j1 j2 _ _ hj h1 h2 rfl rfl (by rw [s1, s2, w])
  let Hm : Hp := fun x => if x = q then some o1 else if x = r then some o2 else H' x
  have mq : Hm q = some o1 := if_pos rfl
  have mr : Hm r = some o2 := (if_neg (Ne.symm ne)).trans (if_pos rfl)
  have nm : ∀ {x : Addr}, x ≠ q → x ≠ r → Hm x = H' x := fun u v => (if_neg u).trans (if_neg v)
  have ext : Ext F H F' Hm := by
    refine ⟨sF, fun x o e => ?_, fun x o e => ?_, new⟩
    · by_cases hx : x = q
      · subst hx; rw [mq, ← g1, e]
      · by_cases hy : x = r
        · subst hy; rw [mr, ← g2, e]
        · rw [nm hx hy]; exact keep x o hx hy e
    · have hx : x ≠ q := fun h => by rw [h, fq] at e; cases e
      have hy : x ≠ r := fun h => by rw [h, fr] at e; cases e
      rw [nm hx hy]; exact sH x o e
  have R2 := (R.ext ext).writep (o := o1') (c' := c1') h1 k1
  have R3 := R2.writep (i := j2) (b := b2) (c := c2) (p := r) (o := o2') (c' := c2') (by rw [List.getElem?_set_ne hj]; exact h2) k2
  have eH : upd (upd Hm q o1') r o2' = H' := by
    funext x
    by_cases hy : x = r
    · subst hy; rw [upd_same, hr]
    · rw [upd_ne hy]
      by_cases hx : x = q
      · subst hx; rw [upd_same, hq]
      · rw [upd_ne hx, nm hx hy]
  rw [eH] at R3
  exact R3
end
/-- the object of slot i with its lists in the slots j1, j2 -/
structure WkAt (ρ : Sto) (C : Addr) (f1 f2 f3 : Str) (i j1 j2 : Nat) (p dx : Addr) (tv : V) (q r : Addr) (T : D) (b1 b2 : Bool) (sl pl : List D) : Prop where
  a : ρ[i]? = some (.ins p C dx (wfs f1 f2 f3 tv T q r))
  b : ρ[j1]? = some (.pin q b1 (.lst sl))
  c : ρ[j2]? = some (.pin r b2 (.lst pl))
def wkEnd (j1 j2 : Nat) (q r : Addr) (b1 b2 : Bool) (ρ : Sto) : Option (Except Exn D × List D × List D) → Option (Res D)
  | none => none
  | some (.ok d, sl, pl) => some (.ok d ((ρ.set j1 (.pin q b1 (.lst sl))).set j2 (.pin r b2 (.lst pl))))
  | some (.error e, sl, pl) => some (.exc e ((ρ.set j1 (.pin q b1 (.lst sl))).set j2 (.pin r b2 (.lst pl))))
def wkRun (C : Addr) (f1 f2 f3 : Str) (i j1 j2 n : Nat) (den : DenW) (ds : List D) : M D := fun ρ => match ρ[i]?, ρ[j1]?, ρ[j2]? with
  | some (.ins p C' dx [(g1, tv, some T), (g2, .ref q', none), (g3, .ref r', none)]), some (.pin q b1 (.lst sl)), some (.pin r b2 (.lst pl)) =>
    if C' = C ∧ g1 = f1 ∧ g2 = f2 ∧ g3 = f3 ∧ q' = q ∧ r' = r ∧ ds.length + 1 = n ∧ j1 ≠ j2 then wkEnd j1 j2 q r b1 b2 ρ (den p dx tv q r T sl pl ds) else none
  | _, _, _ => none
def insM (C : Addr) (f1 f2 f3 : Str) (i : Nat) : M Unit := fun ρ => match ρ[i]? with
  | some (.ins _ C' _ [(g1, _, some _), (g2, .ref _, none), (g3, .ref _, none)]) => if C' = C ∧ g1 = f1 ∧ g2 = f2 ∧ g3 = f3 then some (.ok () ρ) else none
  | _ => none
def wkM (C : Addr) (f1 f2 f3 : Str) (i j1 j2 n : Nat) (den : DenW) (fs : M (List D)) : M D := M.bind (insM C f1 f2 f3 i) fun _ => M.bind fs fun ds => wkRun C f1 f2 f3 i j1 j2 n den ds
theorem wkRun_at {C : Addr} {f1 f2 f3 : Str} {i j1 j2 n : Nat} {den : DenW} {ds : List D} {ρ : Sto} {p dx : Addr} {tv : V} {q r : Addr} {T : D} {b1 b2 : Bool} {sl pl : List D} (h : WkAt ρ C f1 f2 f3 i j1 j2 p dx tv q r T b1 b2 sl pl) (hn : ds.length + 1 = n) (hj : j1 ≠ j2) :
    wkRun C f1 f2 f3 i j1 j2 n den ds ρ = wkEnd j1 j2 q r b1 b2 ρ (den p dx tv q r T sl pl ds) := by
  unfold wkRun
  rw [h.a, h.b, h.c]
  exact if_pos ⟨rfl, rfl, rfl, rfl, rfl, rfl, hn, hj⟩
theorem insM_at {C : Addr} {f1 f2 f3 : Str} {i : Nat} {ρ : Sto} {p dx : Addr} {tv : V} {q r : Addr} {T : D} (h : ρ[i]? = some (.ins p C dx (wfs f1 f2 f3 tv T q r))) : insM C f1 f2 f3 i ρ = some (.ok () ρ) := by
  unfold insM
  rw [h]
  exact if_pos ⟨rfl, rfl, rfl, rfl⟩
theorem wkRun_some {C : Addr} {f1 f2 f3 : Str} {i j1 j2 n : Nat} {den : DenW} {ds : List D} {ρ : Sto} {z : Res D} (h : wkRun C f1 f2 f3 i j1 j2 n den ds ρ = some z) :
    ∃ p dx tv q r T b1 b2 sl pl, WkAt ρ C f1 f2 f3 i j1 j2 p dx tv q r T b1 b2 sl pl ∧ ds.length + 1 = n ∧ j1 ≠ j2 := by
  unfold wkRun at h
  split at h
  · rename_i e1 e2 e3
    split at h
    · rename_i w
      obtain ⟨rfl, rfl, rfl, rfl, rfl, rfl, rfl, hj⟩ := w
      exact ⟨_, _, _, _, _, _, _, _, _, _, ⟨e1, e2, e3⟩, rfl, hj⟩
    · cases h
  · cases h
theorem insM_some {C : Addr} {f1 f2 f3 : Str} {i : Nat} {ρ : Sto} {z : Res Unit} (h : insM C f1 f2 f3 i ρ = some z) : ∃ p dx tv q r T, ρ[i]? = some (.ins p C dx (wfs f1 f2 f3 tv T q r)) ∧ z = .ok () ρ := by
  unfold insM at h
  split at h
  · rename_i e1
    split at h
    · rename_i w
      obtain ⟨rfl, rfl, rfl, rfl⟩ := w
      cases h
      exact ⟨_, _, _, _, _, _, e1, rfl⟩
    · cases h
  · cases h
section
variable {X : Cx} {G : Gx} {W : WX} {k j n : Nat} {pos apos p p2 : Pos} {e : Expr} {es : List Expr} {C : Addr} {m x f1 f2 f3 : Str} {i j1 j2 : Nat} {den : DenW} {ex : Nat → Value} {fs : M (List D)}
theorem lookup3 {tv : V} {T : D} {q r : Addr} (h1 : (m == f1) = false) (h2 : (m == f2) = false) (h3 : (m == f3) = false) : ((wfs f1 f2 f3 tv T q r).map fun e => (e.1, e.2.1)).lookup m = none := by
  unfold wfs
  simp only [List.map_cons, List.map_nil, List.lookup_cons, h1, h2, h3, List.lookup_nil]
/-- the call's end -/
theorem wk_end {F H : Hp} {ρ : Sto} {σ : L2.St} {τ : Tmp} {us : List V} {ds : List D} {Q : VK} {v : V} (R : Rep G F H ρ σ τ) (hv : σ[i]? = some (some v)) (ru : RpA G.K F us ds) (hex : G.ex = ex) (q : Fin G W F σ τ (fun d _ F' H' => ∀ v, Rp G.K F' v d → Q v H') (wkRun C f1 f2 f3 i j1 j2 n den ds ρ)) : spM G.K ex C f1 f2 f3 n den (v :: us) H Q (WE W σ) := by
  cases z : wkRun C f1 f2 f3 i j1 j2 n den ds ρ with
  | none => rw [z] at q; exact q.elim
  | some zz =>
    obtain ⟨p, dx, tv, q', r, T, b1, b2, sl, pl, h, hn, hj⟩ := wkRun_some z
    rw [wkRun_at h hn hj] at q
    obtain ⟨s1, a1, a2⟩ := R.inst h.a
    obtain ⟨s2, o1, g2, ⟨sv, g3, g4⟩, g5, _⟩ := R.pinn h.b
    obtain ⟨s3, o2, k2, ⟨pv, k3, k4⟩, k5, _⟩ := R.pinn h.c
    subst g3; subst k3
    have ne : q' ≠ r := fun w => R.apart j1 j2 _ _ hj h.b h.c rfl rfl (by rw [s2, s3, w])
    have ev : v = .ref p := Option.some.inj (Option.some.inj (hv.symm.trans s1))
    refine ⟨F, p, dx, tv, T, q', r, sl, pl, sv, pv, us, ds, R.sub, by rw [ev], a1, a2 (f1, tv, some T) List.mem_cons_self T rfl, ne, g2, g4, g5, k2, k4, k5, ru, hn, ?_⟩
    match y : den p dx tv q' r T sl pl ds with
    | none => rw [y] at q; exact q.elim
    | some (.ok d, sl', pl') =>
      rw [y] at q
      exact fun F' H' sv' pv' c1 c2 c3 c4 c5 c6 c7 c8 c9 c10 w rw' => q F' H' c1 (R.wrote2 h.b h.c hj c1 c2 c3 c4 c5 c6 c7 ⟨sv', rfl, c8⟩ c9 ⟨pv', rfl, c10⟩) w rw'
    | some (.error er, sl', pl') =>
      rw [y] at q
      intro F' H' sv' pv' c1 c2 c3 c4 c5 c6 c7 c8 c9 c10 cls dd xr
      rw [← hex] at xr
      exact q F' H' cls dd c1 (R.wrote2 h.b h.c hj c1 c2 c3 c4 c5 c6 c7 ⟨sv', rfl, c8⟩ c9 ⟨pv', rfl, c10⟩) xr
theorem ei_mt {pl : Sem Bool} (c : Kx true X G W k) (cl : Cls X.K C) (Mt : MtAt X.prog X.w X.K X.mg X.base C m j (spM X.K ex C f1 f2 f3 n den)) (ha : PA X (e :: es) (tA G W fs)) (hex : G.ex = ex) (hj : j ≤ k) (m1 : (m == f1) = false) (m2 : (m == f2) = false) (m3 : (m == f3) = false) (hN : X.N[i]? = some x := by rfl)
    (hv : Vis X.env.scope x := by first | exact Or.inl rfl | exact Or.inr (Or.inl rfl) | exact Or.inr (Or.inr rfl)) (hd : (x == ("__debug__" : Str)) = false := by decide) (hcd : (x == ("__classdict__" : Str)) = false := by decide)
    (h1 : starEach (e :: es) X.env = (false, eval e X.env) :: starEach es X.env := by rfl) (h2 : (backTo pos (starEach es X.env)).any (·.1) = false := by rfl)
    (h3 : eval (.Call (.Attribute (.Name x p2) m apos) (e :: es) [] pos) X.env = ((eval (.Name x p2) X.env) >>= fun ov => (standAt apos.atName) >>= fun _ => (holding [ov] (getMethod ov m pl)) >>= fun z => callWith pos z.1 z.2 (backTo pos (starEach (e :: es) X.env)) (backToKw pos (keywordEach [] X.env))) := by rfl) :
    PE X (.Call (.Attribute (.Name x p2) m apos) (e :: es) [] pos) (tI G W (wkM C f1 f2 f3 i j1 j2 n den fs)) := by
  refine PE.imp (pe_mtW (W := W) (pe_var hN hv hd hcd) cl Mt ((c.hr rfl).mono hj) c.tk ha h1 h2 h3) fun σ H Q ⟨F, ρ, τ, R, q⟩ => ?_
  have q1 := Fin.bind q
  cases z : insM C f1 f2 f3 i ρ with
  | none => rw [z] at q1; exact q1.elim
  | some zz =>
    rw [z] at q1
    obtain ⟨p', dx, tv, q', r, T, e1, rfl⟩ := insM_some z
    obtain ⟨s1, a1, a2⟩ := R.inst e1
    refine ⟨_, s1, p', dx, _, rfl, R.sub _ _ a1, lookup3 m1 m2 m3, F, ρ, τ, R, (Fin.bind (q1 F H (Same.refl _) R)).imp fun ds ρ1 F1 H1 s' R1 q2 vs rvs => ?_⟩
    rw [← c.hK]
    exact wk_end R1 s1 rvs hex q2
theorem ei_mt0 {pl : Sem Bool} (c : Kx true X G W k) (cl : Cls X.K C) (Mt : MtAt X.prog X.w X.K X.mg X.base C m j (spM X.K ex C f1 f2 f3 n den)) (hex : G.ex = ex) (hj : j ≤ k) (m1 : (m == f1) = false) (m2 : (m == f2) = false) (m3 : (m == f3) = false) (hN : X.N[i]? = some x := by rfl)
    (hv : Vis X.env.scope x := by first | exact Or.inl rfl | exact Or.inr (Or.inl rfl) | exact Or.inr (Or.inr rfl)) (hd : (x == ("__debug__" : Str)) = false := by decide) (hcd : (x == ("__classdict__" : Str)) = false := by decide)
    (h3 : eval (.Call (.Attribute (.Name x p2) m apos) [] [] pos) X.env = ((eval (.Name x p2) X.env) >>= fun ov => (standAt apos.atName) >>= fun _ => (holding [ov] (getMethod ov m pl)) >>= fun z => callWith pos z.1 z.2 (backTo pos (starEach [] X.env)) (backToKw pos (keywordEach [] X.env))) := by rfl) :
    PE X (.Call (.Attribute (.Name x p2) m apos) [] [] pos) (tI G W (wkM C f1 f2 f3 i j1 j2 n den (M.pure []))) := by
  refine PE.imp (pe_mtW0 (W := W) (pe_var hN hv hd hcd) cl Mt ((c.hr rfl).mono hj) c.tk h3) fun σ H Q ⟨F, ρ, τ, R, q⟩ => ?_
  have q1 := Fin.bind q
  cases z : insM C f1 f2 f3 i ρ with
  | none => rw [z] at q1; exact q1.elim
  | some zz =>
    rw [z] at q1
    obtain ⟨p', dx, tv, q', r, T, e1, rfl⟩ := insM_some z
    obtain ⟨s1, a1, a2⟩ := R.inst e1
    refine ⟨_, s1, p', dx, _, rfl, R.sub _ _ a1, lookup3 m1 m2 m3, ?_⟩
    rw [← c.hK]
    exact wk_end R s1 .nil hex (Fin.pure (Fin.bind (q1 F H (Same.refl _) R)) F H (Same.refl _) R)
/-- a property that raises nothing -/
def noExc {α : Type} (m : M α) : M α := fun ρ => match m ρ with
  | some (.ok a ρ') => some (.ok a ρ')
  | _ => none
theorem ei_pr (c : Kx true X G W k) (cl : Cls X.K C) (Mt : PrAt X.prog X.w X.K X.mg X.base C m j (spM X.K ex C f1 f2 f3 n den)) (hex : G.ex = ex) (hj : j + 1 ≤ k) (hN : X.N[i]? = some x := by rfl)
    (hv : Vis X.env.scope x := by first | exact Or.inl rfl | exact Or.inr (Or.inl rfl) | exact Or.inr (Or.inr rfl)) (hd : (x == ("__debug__" : Str)) = false := by decide) (hcd : (x == ("__classdict__" : Str)) = false := by decide)
    (h3 : attributeBase (.Name x p2) m X.env (eval (.Name x p2) X.env) = eval (.Name x p2) X.env := by rfl) :
    PE X (.Attribute (.Name x p2) m pos) (tI G W (noExc (wkM C f1 f2 f3 i j1 j2 n den (M.pure [])))) := by
  obtain ⟨pa, f, fd, ps, Fn, pr, bn⟩ := Mt.ex
  refine PE.imp (pe_prop (E := fun _ _ _ => False) (pe_var hN hv hd hcd) cl pr Fn ((c.hr rfl).mono hj) bn .nil (fun _ _ _ _ _ _ _ ⟨_, _, _, _, _, _, _, _, _, _, _, _, z⟩ => z.elim) h3) fun σ H Q ⟨F, ρ, τ, R, q⟩ => ?_
  unfold noExc at q
  match y : wkM C f1 f2 f3 i j1 j2 n den (M.pure []) ρ with
  | none => rw [y] at q; exact q.elim
  | some (.exc _ _) => rw [y] at q; exact q.elim
  | some (.ok d ρ') =>
    rw [y] at q
    have q0 : Fin G (fun _ _ _ _ => False) F σ τ (fun d _ F' H' => ∀ v, Rp G.K F' v d → Q v H') (wkM C f1 f2 f3 i j1 j2 n den (M.pure []) ρ) := by rw [y]; exact q
    have q1 := Fin.bind q0
    cases z : insM C f1 f2 f3 i ρ with
    | none => rw [z] at q1; exact q1.elim
    | some zz =>
      rw [z] at q1
      obtain ⟨p', dx, tv, q', r, T, e1, rfl⟩ := insM_some z
      obtain ⟨s1, a1, a2⟩ := R.inst e1
      refine ⟨_, s1, p', dx, _, rfl, R.sub _ _ a1, ?_⟩
      rw [← c.hK]
      exact wk_end (W := fun _ _ _ _ => False) R s1 .nil hex (Fin.pure (Fin.bind (q1 F H (Same.refl _) R)) F H (Same.refl _) R)
end
end Dn

/-! Such an instance made; made of what is wrong, within a try -/
namespace Dn
open PySem PySem.Spec PyProof.Rows L2
def spI (K : PySem.W.Frag) (ex : Nat → Value) (C : Addr) (f1 f2 f3 : Str) (den : Den D) : Sp := fun vs H Q E => ∃ F p dx v d, Same F H ∧ vs = [.ref p, v] ∧ H p = some (.ins C dx []) ∧ F p = none ∧ Rp K F v d ∧ (match den [d] with
  | none => False
  | some (.ok _) => ∀ F' H' q r pv, Same F F' → Same F' H' → (∀ a, F' a ≠ none → F a = none → H a = none) → (∀ a o, a ≠ p → H a = some o → H' a = some o) → F' p = none → H' p = some (.ins C dx [(f1, v), (f2, .ref q), (f3, .ref r)]) → H q = none → H r = none → q ≠ r →
      F' q = none → F' r = none → H' q = some (.lst []) → H' r = some (.lst pv) → RpA K F' pv [.tup [.int 0, .int 0]] → Q .non H'
  | some (.error e) => ∀ F' H' cls dd, Ext F H F' H' → ExR K ex F' H' e cls dd → E cls dd H')
abbrev tInit (K : PySem.W.Frag) (ex : Nat → Value) (E : XK) (f1 f2 f3 : Str) (den : Den D) : TS := tSeq (tDrop (tCallS (spD K ex 1 den) (WE (WD E)) (tCons (tVar 1) tNil))) (tSeq (sFld K (tVar 0) (tVar 1) f1) (tSeq (sFld K (tVar 0) (tLst tNil) f2) (sFld K (tVar 0) (tLst (tCons (tTup (tCons (tC (.int 0)) (tCons (tC (.int 0)) tNil))) tNil)) f3)))
section
variable {P : Program} {w : World} {K : PySem.W.Frag} {mg : Str → Option Value} {base : Heap} {ex : Nat → Value} {x qual : Str} {st : Stmt} {f C : Addr} {fd : FuncData} {N : List Str} {n1 n2 : Str} {k : Nat} {f1 f2 f3 : Str} {den : Den D}
theorem fn_I (Fn : Fun K x qual st f fd) (S : FnScope [n1, n2] [n1, n2] (defScope st)) (cl : Cls K C) (a1 : NoAttr K C f1) (a2 : NoAttr K C f2) (a3 : NoAttr K C f3) (n12 : f1 ≠ f2) (n13 : f1 ≠ f3) (n23 : f2 ≠ f3)
    (hb : ∀ (cdv : Value) (A : Around) (outer : List Env) (s : Shared) (H : Hp) (E : XK) (pn : List (Addr × Obj)) (G : Gx), G.ex = ex → Kx true (cxB true (L2N.CX P w) P w K mg base [n1, n2] qual (defScope st) f cdv A outer s H E pn) G (WD E) k →
      PSs (cxB true (L2N.CX P w) P w K mg base [n1, n2] qual (defScope st) f cdv A outer s H E pn) (defBody st) (tInit K ex E f1 f2 f3 den)) : FnOk P w K mg base (L2N.CX P w) (k + 1) f fd [n1, n2] (spI K ex C f1 f2 f3 den) := by
  refine (fn_B (bb := true) Fn S (fun vs H Q E ⟨F, p, dx, v, d, _, e, _⟩ => by rw [e]; rfl)
    fun cdv A outer s H vs Q E pn hkx ⟨F, p, dx, v, d, sF, e, hp, fp, rv, z⟩ => ⟨_, hb cdv A outer s H E pn ⟨K, F, H, [], ex⟩ rfl (hkx _ rfl), ?_⟩).1 rfl
  subst e
  refine ⟨v, rfl, F, [d], sF, .one rv, rfl, ?_⟩
  match y : den [d] with
  | none => rw [y] at z; exact z.elim
  | some (.error er) => rw [y] at z; exact fun F' H' cls dd ex xr => z F' H' cls dd ex xr
  | some (.ok d') =>
    rw [y] at z
    intro F1 H1 u ex1 _
    have h1 : H1 p = some (.ins C dx []) := ex1.h _ _ hp
    have f1p : F1 p = none := none_of_ne fun z => by
      have := ex1.n p z fp
      rw [hp] at this
      cases this
    refine ⟨v, rfl, _, rfl, p, C, dx, [], rfl, h1, cl, a1, (by show 0 < 1000; decide), ?_⟩
    have e1 : putF f1 v [] = [(f1, v)] := rfl
    rw [e1]
    refine ⟨(by show 0 ≤ sizeLine; exact Nat.zero_le _), fun q hq => ⟨_, rfl, p, C, dx, [(f1, v)], rfl, ?_, cl, a2, (by show 1 < 1000; decide), ?_⟩⟩
    · have nq : p ≠ q := fun w => by rw [← w, upd_same] at hq; cases hq
      rw [upd_ne nq, upd_same]
    · have nq : p ≠ q := fun w => by rw [← w, upd_same] at hq; cases hq
      have e2 : putF f2 (V.ref q) [(f1, v)] = [(f1, v), (f2, .ref q)] := by
        show (if f1 = f2 then _ else (f1, v) :: putF f2 (V.ref q) []) = _
        rw [if_neg n12]
        rfl
      rw [e2]
      have hq1 : H1 q = none := by rw [upd_ne (Ne.symm nq)] at hq; exact hq
      refine ⟨(by rw [sizeLine_eq]; decide), fun t ht => ⟨(by rw [sizeLine_eq]; show 1 ≤ 16777216; decide), fun r hr => ⟨_, rfl, p, C, dx, [(f1, v), (f2, .ref q)], rfl, ?_, cl, a3, (by show 2 < 1000; decide), ?_⟩⟩⟩
      · have nt : p ≠ t := fun w => by rw [← w, upd_same] at ht; cases ht
        have nr : p ≠ r := fun w => by rw [← w, upd_ne nt, upd_same] at hr; cases hr
        rw [upd_ne nr, upd_ne nt, upd_same]
      · have nt : p ≠ t := fun w => by rw [← w, upd_same] at ht; cases ht
        have nr : p ≠ r := fun w => by rw [← w, upd_ne nt, upd_same] at hr; cases hr
        have e3 : putF f3 (V.ref r) [(f1, v), (f2, .ref q)] = [(f1, v), (f2, .ref q), (f3, .ref r)] := by
          show (if f1 = f3 then _ else (f1, v) :: (if f2 = f3 then _ else (f2, V.ref q) :: putF f3 (V.ref r) [])) = _
          rw [if_neg n13, if_neg n23]
          rfl
        rw [e3]
        rw [upd_ne (Ne.symm nt)] at ht
        have qt : t ≠ q := fun w => by rw [w, upd_same] at ht; cases ht
        rw [upd_ne qt, upd_ne (Ne.symm nt)] at ht
        have tr : r ≠ t := fun w => by rw [w, upd_same] at hr; cases hr
        rw [upd_ne tr, upd_ne (Ne.symm nr)] at hr
        have qr : r ≠ q := fun w => by rw [w, upd_same] at hr; cases hr
        rw [upd_ne qr, upd_ne (Ne.symm nr)] at hr
        have H0 : ∀ {a : Addr}, H1 a = none → H a = none := fun {a} h => none_of_ne fun z => by
          cases y : H a with
          | none => exact z y
          | some o => rw [ex1.h _ _ y] at h; cases h
        have sF1 : Same F1 (upd F1 t (.tup [.int 0, .int 0])) := same_upd (ex1.s.free ht)
        refine z (upd F1 t (.tup [.int 0, .int 0])) _ q r [.ref t] (ex1.f.trans sF1) (fun a o e => ?_) (fun a w1 w2 => ?_) (fun a o w1 w2 => ?_) ?_ upd_same (H0 hq1) (H0 hr) qr.symm ?_ ?_ ?_ ?_ (.one (.tup upd_same (.cons (.int 0) (.cons (.int 0) .nil))))
        · by_cases wt : a = t
          · subst wt
            rw [upd_same] at e
            rw [upd_ne (Ne.symm nt), upd_ne tr.symm, upd_same, e]
          · rw [upd_ne wt] at e
            have b1 : a ≠ p := fun w => by rw [w, f1p] at e; cases e
            have hh := ex1.s _ _ e
            have b2 : a ≠ r := fun w => by rw [w, hr] at hh; cases hh
            have b3 : a ≠ q := fun w => by rw [w, hq1] at hh; cases hh
            rw [upd_ne b1, upd_ne b2, upd_ne wt, upd_ne b1, upd_ne b3, upd_ne b1]
            exact hh
        · by_cases wt : a = t
          · rw [wt]; exact H0 ht
          · rw [upd_ne wt] at w1
            exact ex1.n a w1 w2
        · have hh := ex1.h _ _ w2
          have b2 : a ≠ r := fun w => by rw [w, hr] at hh; cases hh
          have b3 : a ≠ q := fun w => by rw [w, hq1] at hh; cases hh
          have b4 : a ≠ t := fun w => by rw [w, ht] at hh; cases hh
          rw [upd_ne w1, upd_ne b2, upd_ne b4, upd_ne w1, upd_ne b3, upd_ne w1]
          exact hh
        · rw [upd_ne nt]; exact f1p
        · rw [upd_ne (Ne.symm qt)]; exact ex1.s.free hq1
        · rw [upd_ne tr]; exact ex1.s.free hr
        · rw [upd_ne (Ne.symm nq), upd_ne (Ne.symm qr), upd_ne (Ne.symm qt), upd_ne (Ne.symm nq), upd_same]
        · rw [upd_ne (Ne.symm nr), upd_same]
end
/-- the class: how it is made -/
structure MkAt (P : Program) (w : World) (K : PySem.W.Frag) (mg : Str → Option Value) (base : Heap) (x : Str) (C : Addr) (j : Nat) (sp : Sp) : Prop where
  ex : ∃ f fd ps, FnOk P w K mg base (L2N.CX P w) j f fd ps sp ∧ Mk K C f ∧ mg x = some (.ref C) ∧ L2.Binds K fd ps []
section
variable {X : Cx} {G : Gx} {W : WX} {k j : Nat} {C : Addr} {cn x y f1 f2 f3 : Str} {i i2 j1 j2 : Nat} {den : Den D} {ex : Nat → Value} {fa fb : M D} {a b : Expr} {p p2 p3 pos px py pt pt2 : Pos} {kt k2 : Nat} {rest : List Stmt} {g : Addr → Addr → V → Addr → Addr → M Out}
/-- behind x, y = C(a), b -/
def after (C : Addr) (f1 f2 f3 : Str) (i i2 j1 j2 : Nat) (p dx : Addr) (tv : V) (q r : Addr) (T d : D) (ρ : Sto) : Sto :=
  (((ρ.set j1 (.pin q false (.lst []))).set j2 (.pin r false (.lst [.tup [.int 0, .int 0]]))).set i (.ins p C dx (wfs f1 f2 f3 tv T q r))).set i2 (.val d)
def tMk (G : Gx) (W : WX) (C : Addr) (f1 f2 f3 : Str) (den : Den D) (i i2 j1 j2 : Nat) (fa fb : M D) (g : Addr → Addr → V → Addr → Addr → M Out) : TS := fun E σ H => ∃ F ρ τ T d ρ', Rep G F H ρ σ τ ∧ fa ρ = some (.ok T ρ') ∧ (∃ u, den [T] = some (.ok u)) ∧ fb ρ' = some (.ok d ρ') ∧
  ∀ p dx tv q r F', Same F F' → FinS G W F' τ E (g p dx tv q r (after C f1 f2 f3 i i2 j1 j2 p dx tv q r T d ρ'))
theorem pss_mk (c : Kx true X G W k) (Mc : MkAt X.prog X.w X.K X.mg X.base cn C j (spI X.K ex C f1 f2 f3 den)) (hj : j + 1 ≤ k) (ha : PE X a (tI G W fa)) (hb : PE X b (tI G W fb)) (hr : ∀ p dx tv q r, PSs X rest (tS G W (g p dx tv q r))) (n12 : j1 ≠ j2) (i1 : i ≠ j1) (i2' : i ≠ j2) (m1 : i2 ≠ j1) (m2 : i2 ≠ j2) (hii : i ≠ i2)
    (y1 y2 : Str) (hN1 : X.N[j1]? = some y1) (hN2 : X.N[j2]? = some y2) (v1 : X.env.scope.names.lookup y1 = none) (v2 : X.env.scope.names.lookup y2 = none) (hi : X.N[i]? = some x := by rfl) (hi2 : X.N[i2]? = some y := by rfl) (hx : X.env.scope.names.lookup x = some .local := by rfl) (hy : X.env.scope.names.lookup y = some .local := by rfl)
    (hg : Gl X cn := by rfl) (hdb : (cn == ("__debug__" : Str)) = false := by decide) (he : starEach [a] X.env = (false, eval a X.env) :: starEach [] X.env := by rfl)
    (h1 : starEach [.Call (.Name cn p) [a] [] p2, b] X.env = (false, eval (.Call (.Name cn p) [a] [] p2) X.env) :: starEach [b] X.env := by rfl) (h2 : starEach [b] X.env = (false, eval b X.env) :: starEach [] X.env := by rfl)
    (hw : swappedStores [.Tuple [.Name x px, .Name y py] kt pt] (.Tuple [.Call (.Name cn p) [a] [] p2, b] k2 pt2) X.env = pure (some [x, y]) := by rfl)
    (hs : swapsWithSole [.Tuple [.Name x px, .Name y py] kt pt] (.Tuple [.Call (.Name cn p) [a] [] p2, b] k2 pt2) pos.line X.env = pure false := by rfl) :
    PSs X (.Assign [.Tuple [.Name x px, .Name y py] kt pt] (.Tuple [.Call (.Name cn p) [a] [] p2, b] k2 pt2) pos :: rest) (tMk G W C f1 f2 f3 den i i2 j1 j2 fa fb g) := by
  obtain ⟨f, fd, ps, Fn, mk, mgC, bn⟩ := Mc.ex
  have rest' : PSs X rest (fun E σ H => ∃ p dx tv q r, tS G W (g p dx tv q r) E σ H) := ⟨fun pins s σ H E I ⟨p, dx, tv, q, r, h⟩ => (hr p dx tv q r).run pins s σ H E I h⟩
  refine PSs.imp (pss_cons (ps_par (c.calm rfl) c.nd hi hi2 hii hx hy (pa_cons (pe_make (E := fun _ _ _ => False) mk Fn ((c.hr rfl).mono hj) hg mgC bn .nil (fun _ _ _ _ _ _ _ ⟨_, _, _, _, _, _, _, _, _, _, _, _, z⟩ => z.elim) (pa_cons ha pa_nil he) hdb he rfl) (pa_cons hb pa_nil h2) h1) hw hs) (pss_ghost rest')) ?_
  rintro E σ H ⟨F, ρ, τ, T, d, ρ1, R, ea, ⟨u, ed⟩, eb, q⟩
  refine ⟨F, ρ, τ, R, ?_⟩
  rw [ea]
  intro F1 H1 s1 R1 v rv x0 dx nx ndx ne
  have nF : F1 x0 = none := R1.sub.free nx
  refine ⟨F1, x0, dx, v, T, fun a' o e => ?_, rfl, upd_same, nF, by rw [← c.hK]; exact rv, ?_⟩
  · have hh := R1.sub _ _ e
    rw [upd_ne (ne_of_none hh nx), upd_ne (ne_of_none hh ndx)]
    exact hh
  rw [ed]
  intro F2 H2 qa ra pv k1 k2 k3 k4 k5 k6 k7 k8 k9 k10 k11 k12 k13 k14
  refine ⟨rfl, ?_⟩
  -- the instance is settled
  have hx2 : ∀ {z : Addr}, upd (upd H1 dx (HO.own x0)) x0 (HO.ins C dx []) z = none → H1 z = none := fun {z} h => by
    by_cases w1 : z = x0
    · rw [w1, upd_same] at h; cases h
    · rw [upd_ne w1] at h
      by_cases w2 : z = dx
      · rw [w2, upd_same] at h; cases h
      · rwa [upd_ne w2] at h
  have sF2 : Same F2 (upd F2 x0 (.ins C dx [(f1, v), (f2, .ref qa), (f3, .ref ra)])) := same_upd k5
  have ext : Ext F1 H1 (upd F2 x0 (.ins C dx [(f1, v), (f2, .ref qa), (f3, .ref ra)])) H2 := by
    refine ⟨k1.trans sF2, fun a o e => ?_, fun a o e => ?_, fun a w1 w2 => ?_⟩
    · refine k4 a o (ne_of_none e nx) ?_
      rw [upd_ne (ne_of_none e nx), upd_ne (ne_of_none e ndx)]
      exact e
    · by_cases w : a = x0
      · rw [w, upd_same] at e
        rw [w, k6, e]
      · rw [upd_ne w] at e
        exact k2 _ _ e
    · by_cases w : a = x0
      · rw [w]; exact nx
      · rw [upd_ne w] at w1
        exact hx2 (k3 a w1 w2)
  have R2 := R1.ext ext
  have q1 : H1 qa = none := hx2 k7
  have r1 : H1 ra = none := hx2 k8
  have qx : qa ≠ x0 := fun w => by rw [w, upd_same] at k7; cases k7
  have rx : ra ≠ x0 := fun w => by rw [w, upd_same] at k8; cases k8
  have fr1 : Free ρ1 σ qa := R1.free_new q1
  have fr2 : Free ρ1 σ ra := R1.free_new r1
  -- the second part of the row
  have qfin : Fin G W (upd F2 x0 (.ins C dx [(f1, v), (f2, .ref qa), (f3, .ref ra)])) σ τ (fun d' ρ3 F3 H3 => ρ3 = ρ1 ∧ d' = d) (fb ρ1) := by
    rw [eb]
    exact fun _ _ _ _ => ⟨rfl, rfl⟩
  have own1 : ∃ o, H2 qa = some o := ⟨_, k12⟩
  refine ⟨upd F2 x0 (.ins C dx [(f1, v), (f2, .ref qa), (f3, .ref ra)]), ρ1, (qa, .lst []) :: (ra, .lst pv) :: τ, ?_, ?_⟩
  · refine Rep.push (R2.push k13 (by rw [upd_ne rx]; exact k11) (R1.new_0 r1) fr2 (R1.new_tmp r1)) k12 (by rw [upd_ne qx]; exact k10) (R1.new_0 q1) fr1 ?_
    rw [List.map_cons, List.mem_cons, not_or]
    exact ⟨k9, R1.new_tmp q1⟩
  rw [eb]
  intro F3 H3 s3 R3 w rw'
  refine ⟨_, _, rfl, ((((σ.set i (some (.ref x0))).set i2 (some w)).set j1 (some (.ref qa))).set j2 (some (.ref ra))), by simp only [List.length_set], fun z yz hz vz => ?_, x0, dx, v, qa, ra, F3, _, τ, ?_, q x0 dx v qa ra F3 (s1.trans (k1.trans (sF2.trans s3)))⟩
  · have z2 : z ≠ j2 := fun e => by
      rw [e, hN2] at hz; cases hz
      rcases vz with vz | vz | vz <;> rw [v2] at vz <;> cases vz
    have z1 : z ≠ j1 := fun e => by
      rw [e, hN1] at hz; cases hz
      rcases vz with vz | vz | vz <;> rw [v1] at vz <;> cases vz
    rw [List.getElem?_set_ne (Ne.symm z2), List.getElem?_set_ne (Ne.symm z1)]
  · obtain ⟨R4, g1, g2, g3, g4, g5⟩ := R3.pop
    obtain ⟨R5, l1, l2, l3, l4, l5⟩ := R4.pop
    have A1 := R5.setp j1 g1 (c := .lst []) ⟨_, rfl, .nil⟩ g2 g3 g4 (fun h => g5 (by rw [List.map_cons]; exact List.mem_cons_of_mem _ h))
    have A2 := A1.setp j2 l1 (c := .lst [.tup [.int 0, .int 0]]) ⟨_, rfl, (by rw [c.hK]; exact k14.mono (sF2.trans s3))⟩ l2 l3 (l4.set _ _ _ fun _ z => k9 (by cases z; rfl)) l5
    have A3 := A2.seti i (p := x0) (C := C) (dx := dx) (fs := wfs f1 f2 f3 v T qa ra) (s3 _ _ upd_same) (fun e he d hd => by
      unfold wfs at he
      rcases List.mem_cons.mp he with rfl | he
      · cases hd; exact rv.mono (k1.trans (sF2.trans s3))
      · rcases List.mem_cons.mp he with rfl | he
        · cases hd
        · rw [List.mem_singleton] at he
          subst he
          cases hd)
    have A4 := A3.setv i2 rw'
    have es : (((σ.set j1 (some (V.ref qa))).set j2 (some (V.ref ra))).set i (some (V.ref x0))).set i2 (some w) = (((σ.set i (some (.ref x0))).set i2 (some w)).set j1 (some (.ref qa))).set j2 (some (.ref ra)) := by
      rw [List.set_comm _ _ (Ne.symm i2'), List.set_comm _ _ (Ne.symm m2), List.set_comm _ _ (Ne.symm i1), List.set_comm _ _ (Ne.symm m1)]
    rw [es] at A4
    exact A4
/-- try: C(a) except B as e: return True, where a is never right -/
def mkBadM (n : Nat) (den : Den D) (fs : M (List D)) : M Out := fun ρ => match fs ρ with
  | some (.ok [d] ρ') => (match den [d] with
    | some (.error e) => if e.c = n then some (.ok (.ret (.bl true)) ρ') else none
    | _ => none)
  | _ => none
theorem es_mkBad {z : Str} {iz nb : Nat} {jb : Nat} {fsn : List Str} {spb : Addr → Sp} {bn : Str} {np pos' q1 q2 : Pos} {kc : Nat} {fs : M (List D)} (c : Kx true X G W k) (Mc : MkAt X.prog X.w X.K X.mg X.base cn C j (spI X.K ex C f1 f2 f3 den)) (hj : j + 1 ≤ k) (hex : G.ex = ex) (D : ErrAt X.prog X.w X.K X.mg X.base ex bn nb jb fsn spb)
    (ha : ∀ (pn : List (Addr × Obj)) (xe : Value → Shared → Prop) (W' : WX), Kx true (X.tr pn xe) G W' k → PassesOwn (model X.prog X.w) X.A X.env xe → PA (X.tr pn xe) [a] (tA G W' fs))
    (hz : X.N[iz]? = some z := by rfl) (hln : X.env.kindOf z = some .local := by rfl) (hg : Gl X cn := by rfl) (hdb : (cn == ("__debug__" : Str)) = false := by decide) (hgb : Gl X bn := by rfl) (hdb2 : (bn == ("__debug__" : Str)) = false := by decide) (he : starEach [a] X.env = (false, eval a X.env) :: starEach [] X.env := by rfl)
    (hs : X.stack = X.env :: X.outer := by rfl) (hf : X.env.frame = some X.env.locals := by rfl) (hsw : swapsWith (.Call (.Name cn p) [a] [] p2) none p3.line X.env = pure false := by rfl) :
    PS X (.Try [.Expr (.Call (.Name cn p) [a] [] p2) p3] [.ExceptHandler (some (.Name bn np)) (some z) [.Return (some (.Constant (.bool true) kc q1)) q2] pos'] [] [] pos) (tS G W (mkBadM nb den fs)) := by
  obtain ⟨f, fd, ps, Fn, mk, mgC, bnd⟩ := Mc.ex
  obtain ⟨B, fI, fdI, psI, e1, e2, _, _, _, _, _, _, e9, _⟩ := D.e
  refine PS.imp (L2N.ps_try_as (tb := fun W' => tDrop (tMake C (spI X.K ex C f1 f2 f3 den) [] (fun cls d H => ∀ σ', W' cls d σ' H) (tA G W' fs))) (ts := fun _ _ _ => tRet (tC (.bl true))) hs hf c.nd hz hln ⟨hgb, hdb2, .inl e1⟩ c.tk (fun W' pn xe tk po => ?_) (fun a oe cls d pn z hv => pss_one (ps_ret pe_bl))) ?_
  · have c' : Kx true (X.tr pn xe) G W' k := ⟨c.hK, tk, c.un, c.nd, c.hr, c.calm, fun z => (nomatch z)⟩
    exact pss_one (ps_expr (pe_make mk Fn ((c.hr rfl).mono hj) hg mgC bnd .nil (L2N.passes_call tk fun cls d σ H h => h σ) (ha pn xe W' c' po) hdb he rfl) hsw)
  · rintro E σ H ⟨F, ρ, τ, R, q⟩
    refine ⟨F, ρ, τ, R, ?_⟩
    unfold mkBadM at q
    split at q
    · rename_i d ρ1 e3
      split at q
      · rename_i er e4
        split at q
        · rename_i w
          rw [e3]
          intro F1 H1 s1 R1 vs rvs x0 dx nx ndx ne
          cases rvs with
          | cons rv r2 =>
            cases r2
            have hx2 : Same H1 (upd (upd H1 dx (HO.own x0)) x0 (HO.ins C dx [])) := fun a' o e => by
              rw [upd_ne (ne_of_none e nx), upd_ne (ne_of_none e ndx)]
              exact e
            refine ⟨F1, x0, dx, _, d, R1.sub.trans hx2, rfl, upd_same, R1.sub.free nx, by rw [← c.hK]; exact rv, ?_⟩
            rw [e4]
            intro F2 H2 cls dd ext xr σ'
            have ext2 : Ext F1 H1 F2 H2 := ⟨ext.f, hx2.trans ext.h, ext.s, fun a w1 w2 => none_of_ne fun zz => by
              cases y : H1 a with
              | none => exact zz y
              | some o =>
                have := ext.n a w1 w2
                rw [hx2 _ _ y] at this
                cases this⟩
            refine ⟨true, ?_, fun _ a' _ => q F2 H2 σ _ (s1.trans ext.f) (R1.ext ext2) (.bl true), fun z => (nomatch z)⟩
            have : cls = ex er.c := xr.1
            rw [this, w, e2]
            exact e9
        · exact q.elim
      · exact q.elim
    · exact q.elim
end
end Dn

/-! Where a class's methods stand; a text that begins by two statements and such an instance -/
namespace Dn
open PySem PySem.Spec PyProof.Rows L2
structure DefM (K : PySem.W.Frag) (C : Addr) (m qual : Str) (st : Stmt) (ps : List Str) : Prop where
  ex : ∃ f fd, Fun K m qual st f fd ∧ Meth K C m f ∧ Binds K fd ps []
structure DefP (K : PySem.W.Frag) (C : Addr) (m qual : Str) (st : Stmt) (ps : List Str) : Prop where
  ex : ∃ pa f fd, Fun K m qual st f fd ∧ PropOf K C m pa f ∧ Binds K fd ps []
structure DefI (K : PySem.W.Frag) (mg : Str → Option Value) (x : Str) (C : Addr) (qual : Str) (st : Stmt) (ps : List Str) : Prop where
  ex : ∃ f fd, Fun K "__init__" qual st f fd ∧ Mk K C f ∧ mg x = some (.ref C) ∧ Binds K fd ps []
section
variable {K : PySem.W.Frag} {h : Heap} {mg : Str → Option Value} {m qual x : Str} {st : Stmt} {ps : List Str} {f C pa : Addr} {od an : Option Addr} {sl : Array (Option Value)} {oc kV dc pm cd ct : Value}
theorem def_m (mt : PySem.W.findIn K (.ref C) m = some (some (.ref f))) (fn : PySem.W.isFn K (.ref f) = true) (l : K.lookup f = some ⟨oc, od, .func (PySem.W.fnOf m qual (defArgs st) (defBody st) (defScope st) .none kV dc pm an cd ct), sl⟩) (c : PySem.W.codeIn K cd qual = true) (k : PySem.W.keepIn K (.ref f) = true)
    (b : ∀ (kV doc pm : Value) (an : Option Addr) (cdv ct : Value) (us : List Value), us.length = ps.length → bindArgs (PySem.W.fnOf m qual (defArgs st) (defBody st) (defScope st) .none kV doc pm an cdv ct) ⟨us, []⟩ = pure (ps.zip us)) : DefM K C m qual st ps := by
  have F := fun_mk (st := st) l c k
  exact ⟨f, _, F, ⟨mt, fn, k⟩, F.binds b⟩
theorem def_p {rest : List Value} (mt : PySem.W.findIn K (.ref C) m = some (some (.ref pa))) (gt : PySem.W.specialIn K (.ref pa) "__get__" = some (some (.builtin "property.__get__"))) (tk : PySem.W.takesIn K (.ref pa) = some true) (rc : PySem.W.recIn K pa "property" = some (.ref f :: rest))
    (l : K.lookup f = some ⟨oc, od, .func (PySem.W.fnOf m qual (defArgs st) (defBody st) (defScope st) .none kV dc pm an cd ct), sl⟩) (c : PySem.W.codeIn K cd qual = true) (k : PySem.W.keepIn K (.ref f) = true)
    (b : ∀ (kV doc pm : Value) (an : Option Addr) (cdv ct : Value) (us : List Value), us.length = ps.length → bindArgs (PySem.W.fnOf m qual (defArgs st) (defBody st) (defScope st) .none kV doc pm an cdv ct) ⟨us, []⟩ = pure (ps.zip us)) : DefP K C m qual st ps := by
  have F := fun_mk (st := st) l c k
  exact ⟨pa, f, _, F, ⟨mt, gt, tk, ⟨rest, rc⟩⟩, F.binds b⟩
theorem def_i (X : K.In h) (G : h.Ns mainGlobals mg) (a : PySem.W.nsIn K mainGlobals x = some (some (.ref C))) (mk : PySem.W.makesIn K C = true) (ini : PySem.W.findIn K (.ref C) "__init__" = some (some (.ref f))) (fn : PySem.W.isFn K (.ref f) = true) (kc : PySem.W.keepIn K (.ref C) = true)
    (l : K.lookup f = some ⟨oc, od, .func (PySem.W.fnOf "__init__" qual (defArgs st) (defBody st) (defScope st) .none kV dc pm an cd ct), sl⟩) (c : PySem.W.codeIn K cd qual = true) (k : PySem.W.keepIn K (.ref f) = true)
    (b : ∀ (kV doc pm : Value) (an : Option Addr) (cdv ct : Value) (us : List Value), us.length = ps.length → bindArgs (PySem.W.fnOf "__init__" qual (defArgs st) (defBody st) (defScope st) .none kV doc pm an cdv ct) ⟨us, []⟩ = pure (ps.zip us)) : DefI K mg x C qual st ps := by
  have F := fun_mk (st := st) l c k
  exact ⟨f, _, F, ⟨mk, ini, fn, kc⟩, PySem.W.mg_of X G a, F.binds b⟩
theorem cls_mk (pg : PySem.W.plainGet K C Str.empty = true) (hd : PySem.W.hasDictIn K C = true) (po : PySem.W.plainOver K C = true) (sa : PySem.W.findIn K (.ref C) "__setattr__" = some (some (.builtin "object.__setattr__"))) : Cls K C := ⟨pg, hd, po, sa⟩
end
section
variable {P : Program} {w : World} {K : PySem.W.Frag} {mg : Str → Option Value} {base : Heap} {ex : Nat → Value} {m qual x : Str} {st : Stmt} {C : Addr} {N ps : List Str} {k : Nat} {g : M Out} {f1 f2 f3 : Str}
theorem df_M (d : DefM K C m qual st ps) (S : FnScope N ps (defScope st)) (hl : ps.length + 2 ≤ N.length) (hg : ∀ (i : Nat) (y : Str), N[i]? = some y → N.length ≤ i + 2 → ¬ Vis (defScope st) y)
    (hb : ∀ (f : Addr) (cdv : Value) (A : Around) (outer : List Env) (s : Shared) (H : Hp) (E : XK) (pn : List (Addr × Obj)) (G : Gx), G.ex = ex → Kx true (cxB true (L2N.CX P w) P w K mg base N qual (defScope st) f cdv A outer s H E pn) G (WD E) k →
      PSs (cxB true (L2N.CX P w) P w K mg base N qual (defScope st) f cdv A outer s H E pn) (defBody st) (tS G (WD E) g)) : MtAt P w K mg base C m (k + 1) (spM K ex C f1 f2 f3 ps.length (runM N.length C f1 f2 f3 g)) := by
  obtain ⟨f, fd, h1, h2, h3⟩ := d.ex
  exact ⟨f, fd, ps, fn_M h1 S hl hg (fun cdv A outer s H E pn G h c => hb f cdv A outer s H E pn G h c), h2, h3⟩
theorem df_P (d : DefP K C m qual st ps) (S : FnScope N ps (defScope st)) (hl : ps.length + 2 ≤ N.length) (hg : ∀ (i : Nat) (y : Str), N[i]? = some y → N.length ≤ i + 2 → ¬ Vis (defScope st) y)
    (hb : ∀ (f : Addr) (cdv : Value) (A : Around) (outer : List Env) (s : Shared) (H : Hp) (E : XK) (pn : List (Addr × Obj)) (G : Gx), G.ex = ex → Kx true (cxB true (L2N.CX P w) P w K mg base N qual (defScope st) f cdv A outer s H E pn) G (WD E) k →
      PSs (cxB true (L2N.CX P w) P w K mg base N qual (defScope st) f cdv A outer s H E pn) (defBody st) (tS G (WD E) g)) : PrAt P w K mg base C m (k + 1) (spM K ex C f1 f2 f3 ps.length (runM N.length C f1 f2 f3 g)) := by
  obtain ⟨pa, f, fd, h1, h2, h3⟩ := d.ex
  exact ⟨pa, f, fd, ps, fn_M h1 S hl hg (fun cdv A outer s H E pn G h c => hb f cdv A outer s H E pn G h c), h2, h3⟩
/-- no name of the scope -/
theorem hid_two {sc : Scope} {N : List Str} {n : Nat} {y1 y2 : Str} (hn : N.length = n + 2) (h1 : N[n]? = some y1) (h2 : N[n + 1]? = some y2) (v1 : sc.names.lookup y1 = none) (v2 : sc.names.lookup y2 = none) : ∀ (i : Nat) (y : Str), N[i]? = some y → N.length ≤ i + 2 → ¬ Vis sc y := fun i y hi hl hv => by
  have lt := (List.getElem?_eq_some_iff.mp hi).1
  have : i = n ∨ i = n + 1 := by omega
  rcases this with rfl | rfl
  · rw [h1] at hi; cases hi
    rcases hv with hv | hv | hv <;> rw [v1] at hv <;> cases hv
  · rw [h2] at hi; cases hi
    rcases hv with hv | hv | hv <;> rw [v2] at hv <;> cases hv
end
section
variable {X : Cx} {G : Gx} {W : WX} {s1 s2 : Stmt} {rest : List Stmt} {g1 g2 : M Out} {t : TS}
theorem pss_head2 (h1 : PS X s1 (tS G W g1)) (h2 : PS X s2 (tS G W g2)) (hr : PSs X rest t) :
    PSs X (s1 :: s2 :: rest) (fun E σ H => ∃ F ρ τ ρ', Rep G F H ρ σ τ ∧ seqS g1 g2 ρ = some (.ok .nx ρ') ∧ ∀ F' H' σ', Same F F' → Rep G F' H' ρ' σ' τ → t E σ' H') := PSs.imp (pss_cons h1 (pss_cons h2 hr)) fun E σ H ⟨F, ρ, τ, ρ', R, e, q⟩ => by
  refine ⟨F, ρ, τ, R, ?_⟩
  unfold seqS M.bind at e
  match y : g1 ρ with
  | none => rw [y] at e; cases e
  | some (.exc er ρ1) => rw [y] at e; cases e
  | some (.ok .nx ρ1) =>
    rw [y] at e
    intro F1 H1 σ1 s1 R1
    refine ⟨F1, ρ1, τ, R1, ?_⟩
    have e : g2 ρ1 = some (.ok .nx ρ') := e
    rw [e]
    exact fun F2 H2 σ2 s2 R2 => q F2 H2 σ2 (s1.trans s2) R2
  | some (.ok (.ret d) ρ1) => rw [y] at e; cases e
  | some (.ok (.retN d) ρ1) => rw [y] at e; cases e
  | some (.ok .bk ρ1) => rw [y] at e; cases e
  | some (.ok .ct ρ1) => rw [y] at e; cases e
end
/-- a law's promise, when it is True at every script -/
def okW : Den D := fun ds => match ds with
  | [.scr ns] => if ns.length ≤ 63 then some (.ok (.bl true)) else none
  | _ => none
theorem okW_some {ds : List D} {z : Except Exn D} (h : okW ds = some z) : ∃ ns : List Int, ds = [.scr ns] ∧ ns.length ≤ 63 ∧ z = .ok (.bl true) := by
  unfold okW at h
  split at h
  · split at h
    · rename_i ns hz
      cases h
      exact ⟨ns, rfl, hz, rfl⟩
    · cases h
  · cases h
theorem okW_ok {ns : List Int} (h : ns.length ≤ 63) : okW [.scr ns] = some (.ok (.bl true)) := if_pos h
section
variable {P : Program} {w : World} {K : PySem.W.Frag} {mg : Str → Option Value} {base : Heap} {ex : Nat → Value} {x qual : Str} {st : Stmt} {f C : Addr} {fd : FuncData} {N : List Str} {y : Str} {k : Nat} {g1 g2 : M Out} {g : M Out} {f1 f2 f3 : Str} {den : Den D} {fa fb : M D} {i i2 j1 j2 : Nat}
theorem fn_W (Fn : Fun K x qual st f fd) (S : FnScope N [y] (defScope st)) (hl : 1 ≤ N.length)
    (hm : ∀ ns : List Int, ns.length ≤ 63 → ∃ ρ1 T d, seqS g1 g2 (start0 N.length [.scr ns]) = some (.ok .nx ρ1) ∧ fa ρ1 = some (.ok T ρ1) ∧ (∃ u, den [T] = some (.ok u)) ∧ fb ρ1 = some (.ok d ρ1) ∧
      ∀ p dx tv q r, ∃ ρ2, g (after C f1 f2 f3 i i2 j1 j2 p dx tv q r T d ρ1) = some (.ok (.ret (.bl true)) ρ2))
    (hb : ∀ (cdv : Value) (A : Around) (outer : List Env) (s : Shared) (H : Hp) (E : XK) (pn : List (Addr × Obj)) (G : Gx), G.ex = ex → Kx true (cxB true (L2N.CX P w) P w K mg base N qual (defScope st) f cdv A outer s H E pn) G (WD E) k →
      PSs (cxB true (L2N.CX P w) P w K mg base N qual (defScope st) f cdv A outer s H E pn) (defBody st) (fun E' σ H => ∃ F ρ τ ρ', Rep G F H ρ σ τ ∧ seqS g1 g2 ρ = some (.ok .nx ρ') ∧ ∀ F' H' σ', Same F F' → Rep G F' H' ρ' σ' τ → tMk G (WD E) C f1 f2 f3 den i i2 j1 j2 fa fb (fun _ _ _ _ _ => g) E' σ' H')) :
    FnOk P w K mg base (L2N.CX P w) (k + 1) f fd [y] (spD K (fun _ => .none) 1 okW) := by
  refine (fn_B (bb := true) Fn S (fun vs H Q E ⟨F, ds, _, r, hn, _⟩ => r.length.trans hn) fun cdv A outer s H vs Q E pn hkx ⟨F, ds, sF, r, hn, q⟩ => ⟨_, hb cdv A outer s H E pn ⟨K, F, H, [], ex⟩ rfl (hkx _ rfl), ?_⟩).1 rfl
  cases z : okW ds with
  | none => rw [z] at q; exact q.elim
  | some zz =>
    rw [z] at q
    obtain ⟨ns, rfl, hz, rfl⟩ := okW_some z
    obtain ⟨ρ1, T, d, e1, e2, e3, e4, e5⟩ := hm ns hz
    refine ⟨F, start0 N.length [.scr ns], [], ρ1, start_rep (ps := [y]) sF r (r.length.trans hn) hl, e1, fun F1 H1 σ1 s1 R1 => ⟨F1, ρ1, [], T, d, ρ1, R1, e2, e3, e4, fun p dx tv q' r' F2 s2 => ?_⟩⟩
    obtain ⟨ρ2, e6⟩ := e5 p dx tv q' r'
    show FinS _ _ _ _ _ (g (after C f1 f2 f3 i i2 j1 j2 p dx tv q' r' T d ρ1))
    rw [e6]
    exact fun F3 H3 σ3 v s3 R3 rv => q F3 H3 v R3.out rv
end
end Dn

/-! Such an instance made within an if; a text that goes on behind it -/
namespace Dn
open PySem PySem.Spec PyProof.Rows L2
def tThen (G : Gx) (g : M Out) (t : TS) : TS := fun E σ H => ∃ F ρ τ ρ', Rep G F H ρ σ τ ∧ g ρ = some (.ok .nx ρ') ∧ ∀ F' H' σ', Same F F' → Rep G F' H' ρ' σ' τ → t E σ' H'
section
variable {X : Cx} {G : Gx} {W : WX} {s : Stmt} {rest l : List Stmt} {g g1 g2 : M Out} {t u : TS} {c : Expr} {tc : M Bool} {pos : Pos}
theorem seq_some {ρ ρ' : Sto} (e : seqS g1 g2 ρ = some (.ok .nx ρ')) : ∃ ρ1, g1 ρ = some (.ok .nx ρ1) ∧ g2 ρ1 = some (.ok .nx ρ') := by
  unfold seqS M.bind at e
  match y : g1 ρ with
  | none => rw [y] at e; cases e
  | some (.exc er ρ1) => rw [y] at e; cases e
  | some (.ok .nx ρ1) => rw [y] at e; exact ⟨ρ1, rfl, e⟩
  | some (.ok (.ret d) ρ1) => rw [y] at e; cases e
  | some (.ok (.retN d) ρ1) => rw [y] at e; cases e
  | some (.ok .bk ρ1) => rw [y] at e; cases e
  | some (.ok .ct ρ1) => rw [y] at e; cases e
theorem pss_last (h : PS X s (tS G W g)) (hr : PSs X rest t) : PSs X (s :: rest) (tThen G g t) := PSs.imp (pss_cons h hr) fun E σ H ⟨F, ρ, τ, ρ', R, e, q⟩ => by
  refine ⟨F, ρ, τ, R, ?_⟩
  rw [e]
  exact fun F2 H2 σ2 s2 R2 => q F2 H2 σ2 s2 R2
theorem pss_then (h : PS X s (tS G W g1)) (hr : PSs X rest (tThen G g2 t)) : PSs X (s :: rest) (tThen G (seqS g1 g2) t) := PSs.imp (pss_last h hr) fun E σ H ⟨F, ρ, τ, ρ', R, e, q⟩ => by
  obtain ⟨ρ1, e1, e2⟩ := seq_some e
  exact ⟨F, ρ, τ, ρ1, R, e1, fun F2 H2 σ2 s2 R2 => ⟨F2, ρ1, τ, ρ', R2, e2, fun F3 H3 σ3 s3 R3 => q F3 H3 σ3 (s2.trans s3) R3⟩⟩
def tIfW (G : Gx) (tc : M Bool) (t : TS) : TS := fun E σ H => ∃ F ρ τ b ρ', Rep G F H ρ σ τ ∧ tc ρ = some (.ok b ρ') ∧ ∀ F' H', Same F F' → Rep G F' H' ρ' σ τ → (b = true → t E σ H') ∧ (b = false → E.nx σ H')
theorem ps_ifW (hc : PT X c (tT G W tc)) (hl : PSs X l t) : PS X (.If c l [] pos) (tIfW G tc t) := PS.imp (ps_if hc hl pss_nil) fun E σ H ⟨F, ρ, τ, b, ρ', R, e, q⟩ => by
  refine ⟨F, ρ, τ, R, ?_⟩
  rw [e]
  intro F1 H1 s1 R1
  obtain ⟨q1, q2⟩ := q F1 H1 s1 R1
  cases b with
  | true => exact iteT (q1 rfl)
  | false => exact iteF (q2 rfl)
end
section
variable {X : Cx} {G : Gx} {W : WX} {k j : Nat} {C : Addr} {cn x f1 f2 f3 : Str} {i j1 j2 : Nat} {den : Den D} {ex : Nat → Value} {fa : M D} {a : Expr} {p p2 pos px : Pos} {rest : List Stmt} {g : Addr → Addr → V → Addr → Addr → M Out}
def after1 (C : Addr) (f1 f2 f3 : Str) (i j1 j2 : Nat) (p dx : Addr) (tv : V) (q r : Addr) (T : D) (ρ : Sto) : Sto :=
  ((ρ.set j1 (.pin q false (.lst []))).set j2 (.pin r false (.lst [.tup [.int 0, .int 0]]))).set i (.ins p C dx (wfs f1 f2 f3 tv T q r))
def tMk1 (G : Gx) (W : WX) (C : Addr) (f1 f2 f3 : Str) (den : Den D) (i j1 j2 : Nat) (fa : M D) (g : Addr → Addr → V → Addr → Addr → M Out) : TS := fun E σ H => ∃ F ρ τ T ρ', Rep G F H ρ σ τ ∧ fa ρ = some (.ok T ρ') ∧ (∃ u, den [T] = some (.ok u)) ∧
  ∀ p dx tv q r F', Same F F' → FinS G W F' τ E (g p dx tv q r (after1 C f1 f2 f3 i j1 j2 p dx tv q r T ρ'))
theorem pss_mk1 (c : Kx true X G W k) (Mc : MkAt X.prog X.w X.K X.mg X.base cn C j (spI X.K ex C f1 f2 f3 den)) (hj : j + 1 ≤ k) (ha : PE X a (tI G W fa)) (hr : ∀ p dx tv q r, PSs X rest (tS G W (g p dx tv q r))) (n12 : j1 ≠ j2) (i1 : i ≠ j1) (i2' : i ≠ j2)
    (y1 y2 : Str) (hN1 : X.N[j1]? = some y1) (hN2 : X.N[j2]? = some y2) (v1 : X.env.scope.names.lookup y1 = none) (v2 : X.env.scope.names.lookup y2 = none) (hi : X.N[i]? = some x := by rfl) (hx : Loc X.env.scope x := by first | exact Or.inl rfl | exact Or.inr rfl) (hg : Gl X cn := by rfl) (hdb : (cn == ("__debug__" : Str)) = false := by decide) (he : starEach [a] X.env = (false, eval a X.env) :: starEach [] X.env := by rfl)
    (hs : swapsWith (.Call (.Name cn p) [a] [] p2) (some (.Name x px)) pos.line X.env = pure false := by rfl) (hf : X.fn x = true ∨ X.env.scope.names.lookup x = some .local := by first | exact .inl rfl | exact .inr rfl | assumption) :
    PSs X (.Assign [.Name x px] (.Call (.Name cn p) [a] [] p2) pos :: rest) (tMk1 G W C f1 f2 f3 den i j1 j2 fa g) := by
  obtain ⟨f, fd, ps, Fn, mk, mgC, bn⟩ := Mc.ex
  have rest' : PSs X rest (fun E σ H => ∃ p dx tv q r, tS G W (g p dx tv q r) E σ H) := ⟨fun pins s σ H E I ⟨p, dx, tv, q, r, h⟩ => (hr p dx tv q r).run pins s σ H E I h⟩
  refine PSs.imp (pss_cons (ps_set (i := i) c.nd hi hx (pe_make (E := fun _ _ _ => False) mk Fn ((c.hr rfl).mono hj) hg mgC bn .nil (fun _ _ _ _ _ _ _ ⟨_, _, _, _, _, _, _, _, _, _, _, _, z⟩ => z.elim) (pa_cons ha pa_nil he) hdb he rfl) hs hf) (pss_ghost rest')) ?_
  rintro E σ H ⟨F, ρ, τ, T, ρ1, R, ea, ⟨u, ed⟩, q⟩
  refine ⟨F, ρ, τ, R, ?_⟩
  rw [ea]
  intro F1 H1 s1 R1 v rv x0 dx nx ndx ne
  have nF : F1 x0 = none := R1.sub.free nx
  refine ⟨F1, x0, dx, v, T, fun a' o e => ?_, rfl, upd_same, nF, by rw [← c.hK]; exact rv, ?_⟩
  · have hh := R1.sub _ _ e
    rw [upd_ne (ne_of_none hh nx), upd_ne (ne_of_none hh ndx)]
    exact hh
  rw [ed]
  intro F2 H2 qa ra pv k1 k2 k3 k4 k5 k6 k7 k8 k9 k10 k11 k12 k13 k14
  refine ⟨rfl, ?_⟩
  -- the instance is settled
  have hx2 : ∀ {z : Addr}, upd (upd H1 dx (HO.own x0)) x0 (HO.ins C dx []) z = none → H1 z = none := fun {z} h => by
    by_cases w1 : z = x0
    · rw [w1, upd_same] at h; cases h
    · rw [upd_ne w1] at h
      by_cases w2 : z = dx
      · rw [w2, upd_same] at h; cases h
      · rwa [upd_ne w2] at h
  have sF2 : Same F2 (upd F2 x0 (.ins C dx [(f1, v), (f2, .ref qa), (f3, .ref ra)])) := same_upd k5
  have ext : Ext F1 H1 (upd F2 x0 (.ins C dx [(f1, v), (f2, .ref qa), (f3, .ref ra)])) H2 := by
    refine ⟨k1.trans sF2, fun a o e => ?_, fun a o e => ?_, fun a w1 w2 => ?_⟩
    · refine k4 a o (ne_of_none e nx) ?_
      rw [upd_ne (ne_of_none e nx), upd_ne (ne_of_none e ndx)]
      exact e
    · by_cases w : a = x0
      · rw [w, upd_same] at e
        rw [w, k6, e]
      · rw [upd_ne w] at e
        exact k2 _ _ e
    · by_cases w : a = x0
      · rw [w]; exact nx
      · rw [upd_ne w] at w1
        exact hx2 (k3 a w1 w2)
  have R2 := R1.ext ext
  have q1 : H1 qa = none := hx2 k7
  have r1 : H1 ra = none := hx2 k8
  have qx : qa ≠ x0 := fun w => by rw [w, upd_same] at k7; cases k7
  have rx : ra ≠ x0 := fun w => by rw [w, upd_same] at k8; cases k8
  have fr1 : Free ρ1 σ qa := R1.free_new q1
  have fr2 : Free ρ1 σ ra := R1.free_new r1
  have R3 : Rep G (upd F2 x0 (.ins C dx [(f1, v), (f2, .ref qa), (f3, .ref ra)])) H2 ρ1 σ ((qa, .lst []) :: (ra, .lst pv) :: τ) := by
    refine Rep.push (R2.push k13 (by rw [upd_ne rx]; exact k11) (R1.new_0 r1) fr2 (R1.new_tmp r1)) k12 (by rw [upd_ne qx]; exact k10) (R1.new_0 q1) fr1 ?_
    rw [List.map_cons, List.mem_cons, not_or]
    exact ⟨k9, R1.new_tmp q1⟩
  refine ⟨(((σ.set i (some (.ref x0))).set j1 (some (.ref qa))).set j2 (some (.ref ra))), by simp only [List.length_set], fun z yz hz vz => ?_, x0, dx, v, qa, ra, upd F2 x0 (.ins C dx [(f1, v), (f2, .ref qa), (f3, .ref ra)]), _, τ, ?_, q x0 dx v qa ra _ (s1.trans (k1.trans sF2))⟩
  · have z2 : z ≠ j2 := fun e => by
      rw [e, hN2] at hz; cases hz
      rcases vz with vz | vz | vz <;> rw [v2] at vz <;> cases vz
    have z1 : z ≠ j1 := fun e => by
      rw [e, hN1] at hz; cases hz
      rcases vz with vz | vz | vz <;> rw [v1] at vz <;> cases vz
    rw [List.getElem?_set_ne (Ne.symm z2), List.getElem?_set_ne (Ne.symm z1)]
  · obtain ⟨R4, g1, g2, g3, g4, g5⟩ := R3.pop
    obtain ⟨R5, l1, l2, l3, l4, l5⟩ := R4.pop
    have A1 := R5.setp j1 g1 (c := .lst []) ⟨_, rfl, .nil⟩ g2 g3 g4 (fun h => g5 (by rw [List.map_cons]; exact List.mem_cons_of_mem _ h))
    have A2 := A1.setp j2 l1 (c := .lst [.tup [.int 0, .int 0]]) ⟨_, rfl, (by rw [c.hK]; exact k14.mono sF2)⟩ l2 l3 (l4.set _ _ _ fun _ z => k9 (by cases z; rfl)) l5
    have A3 := A2.seti i (p := x0) (C := C) (dx := dx) (fs := wfs f1 f2 f3 v T qa ra) upd_same (fun e he d hd => by
      unfold wfs at he
      rcases List.mem_cons.mp he with rfl | he
      · cases hd; exact rv.mono (k1.trans sF2)
      · rcases List.mem_cons.mp he with rfl | he
        · cases hd
        · rw [List.mem_singleton] at he
          subst he
          cases hd)
    have es : ((σ.set j1 (some (V.ref qa))).set j2 (some (V.ref ra))).set i (some (V.ref x0)) = ((σ.set i (some (.ref x0))).set j1 (some (.ref qa))).set j2 (some (.ref ra)) := by
      rw [List.set_comm _ _ (Ne.symm i2'), List.set_comm _ _ (Ne.symm i1)]
    rw [es] at A3
    exact A3
end
section
variable {P : Program} {w : World} {K : PySem.W.Frag} {mg : Str → Option Value} {base : Heap} {ex : Nat → Value} {x qual : Str} {st : Stmt} {f C : Addr} {fd : FuncData} {N : List Str} {y : Str} {k : Nat} {hd blk tl : M Out} {tc : M Bool} {f1 f2 f3 : Str} {den : Den D} {fa : M D} {i j1 j2 : Nat}
theorem fn_W2 (Fn : Fun K x qual st f fd) (S : FnScope N [y] (defScope st)) (hl : 1 ≤ N.length)
    (hm : ∀ ns : List Int, ns.length ≤ 63 → ∃ ρ1 b ρ2, hd (start0 N.length [.scr ns]) = some (.ok .nx ρ1) ∧ tc ρ1 = some (.ok b ρ2) ∧ (b = false → ∃ ρ5, tl ρ2 = some (.ok (.ret (.bl true)) ρ5)) ∧ (b = true → ∃ T ρ3, fa ρ2 = some (.ok T ρ3) ∧ (∃ u, den [T] = some (.ok u)) ∧
      ∀ p dx tv q r, ∃ ρ4 ρ5, blk (after1 C f1 f2 f3 i j1 j2 p dx tv q r T ρ3) = some (.ok .nx ρ4) ∧ tl ρ4 = some (.ok (.ret (.bl true)) ρ5)))
    (hb : ∀ (cdv : Value) (A : Around) (outer : List Env) (s : Shared) (H : Hp) (E : XK) (pn : List (Addr × Obj)) (G : Gx), G.ex = ex → Kx true (cxB true (L2N.CX P w) P w K mg base N qual (defScope st) f cdv A outer s H E pn) G (WD E) k →
      PSs (cxB true (L2N.CX P w) P w K mg base N qual (defScope st) f cdv A outer s H E pn) (defBody st) (tThen G hd (tSeq (tIfW G tc (tMk1 G (WD E) C f1 f2 f3 den i j1 j2 fa (fun _ _ _ _ _ => blk))) (tS G (WD E) tl)))) :
    FnOk P w K mg base (L2N.CX P w) (k + 1) f fd [y] (spD K (fun _ => .none) 1 okW) := by
  refine (fn_B (bb := true) Fn S (fun vs H Q E ⟨F, ds, _, r, hn, _⟩ => r.length.trans hn) fun cdv A outer s H vs Q E pn hkx ⟨F, ds, sF, r, hn, q⟩ => ⟨_, hb cdv A outer s H E pn ⟨K, F, H, [], ex⟩ rfl (hkx _ rfl), ?_⟩).1 rfl
  cases z : okW ds with
  | none => rw [z] at q; exact q.elim
  | some zz =>
    rw [z] at q
    obtain ⟨ns, rfl, hz, rfl⟩ := okW_some z
    obtain ⟨ρ1, b, ρ2, e1, e2, e3, e4⟩ := hm ns hz
    refine ⟨F, start0 N.length [.scr ns], [], ρ1, start_rep (ps := [y]) sF r (r.length.trans hn) hl, e1, fun F1 H1 σ1 s1 R1 => ⟨F1, ρ1, [], b, ρ2, R1, e2, fun F2 H2 s2 R2 => ⟨fun hb => ?_, fun hb => ?_⟩⟩⟩
    · obtain ⟨T, ρ3, a1, a2, a3⟩ := e4 hb
      refine ⟨F2, ρ2, [], T, ρ3, R2, a1, a2, fun p dx tv q' r' F3 s3 => ?_⟩
      obtain ⟨ρ4, ρ5, b1, b2⟩ := a3 p dx tv q' r'
      show FinS _ _ _ _ _ (blk (after1 C f1 f2 f3 i j1 j2 p dx tv q' r' T ρ3))
      rw [b1]
      intro F4 H4 σ4 s4 R4
      refine ⟨F4, ρ4, [], R4, ?_⟩
      rw [b2]
      exact fun F5 H5 σ5 v s5 R5 rv => q F5 H5 v R5.out rv
    · obtain ⟨ρ5, b2⟩ := e3 hb
      refine ⟨F2, ρ2, [], R2, ?_⟩
      rw [b2]
      exact fun F5 H5 σ5 v s5 R5 rv => q F5 H5 v R5.out rv
end
end Dn

/-! x[::-1], x a tuple of two or more -/
namespace Dn
open PySem PySem.Spec PyProof.Rows L2
theorem adj_back (n : Int) : Builtin.Slice.sliceAdjust none none (-1) n = (n - 1, -1) := rfl
theorem places_back (n : Nat) (hn : 1 ≤ n) : Builtin.Slice.slicePlaces ((n : Int) - 1) (-1) (-1) = n := by
  unfold Builtin.Slice.slicePlaces
  rw [if_neg (by decide), if_pos (by omega)]
  have : ((n : Int) - 1 - -1 - 1) / -(-1) + 1 = n := by
    rw [Int.neg_neg, Int.ediv_one]; omega
  rw [this]
  omega
def revL {α : Type} (l : List α) : List α := (List.range l.length).filterMap fun (k : Nat) => l[((l.length : Int) - 1 + (k : Int) * (-1)).toNat]?
theorem getItem_tuple_back {prog : Program} {w : World} {A : Around} {E : Value → Shared → Prop} {s : Shared} {t sl : Addr} {us : List Value} {u : Tok} {Q : Value → Shared → Prop} (hl : IsTup s.heap t us.toArray) (hs : s.heap.IsSliceOf sl .none .none (.int (-1) u)) (hn : 2 ≤ us.length) (hz : us.length ≤ sizeLine)
    (h : Q (.ref s.heap.objs.size) { s with heap := s.heap.push { cls := .type "tuple", data := .seq (revL us).toArray } }) : wpAny (model prog w) A (getItem (.ref t) (.ref sl)) Q E s := by
  have ty : s.TypeIs (.ref t) "tuple" := Heap.IsTuple.typeIs hl
  obtain ⟨o, h1, h2, h3⟩ := hs
  have ts : s.TypeIs (.ref sl) "slice" := ⟨o, h1, h2⟩
  refine wpAny_getItem_slot ty (by decide) slot_tuple_getitem (wpAny_call_entry slot_tuple_getitem ty entry_tuple_getitem ?_ (args_tuple_getitem _ _))
  obtain ⟨⟨oc, od, odat, osl⟩, g1, g2, n, g3⟩ := hl
  simp only at g2 g3
  subst g2; subst g3
  obtain ⟨pc, pd, pdat, psl⟩ := o
  simp only at h2 h3
  subst h2; subst h3
  have li := PySem.F.slot_int_index.lookup
  unfold Builtin.«tuple.__getitem__»
  (repeat (any_goals (first | assumption | wp_step)))
  have pl := places_back us.length (by omega)
  have le : (revL us).toArray.size ≤ sizeLine := by
    rw [List.size_toArray]
    refine Nat.le_trans (List.length_filterMap_le _ _) ?_
    rw [List.length_range]
    exact hz
  have ea : (List.filterMap (fun (k : Nat) => us.toArray[((Builtin.Slice.sliceAdjust none none ((some (-1 : Int)).getD 1) (us.toArray.size : Int)).fst + (k : Int) * (some (-1 : Int)).getD 1).toNat]?) (List.range (Builtin.Slice.slicePlaces (Builtin.Slice.sliceAdjust none none ((some (-1 : Int)).getD 1) (us.toArray.size : Int)).fst (Builtin.Slice.sliceAdjust none none ((some (-1 : Int)).getD 1) (us.toArray.size : Int)).snd ((some (-1 : Int)).getD 1)))) = revL us := by
    simp only [Option.getD_some, adj_back, List.size_toArray, pl]
    unfold revL
    simp only [List.getElem?_toArray]
  rw [ea, if_neg (Nat.not_lt.mpr le)]
  (repeat (any_goals (first | assumption | wp_step)))
  exact ⟨_, rfl, h⟩
theorem RpA.rev {K : PySem.W.Frag} {F : Hp} {vs : List V} {ds : List D} (h : RpA K F vs ds) : RpA K F (revL vs) (revL ds) := by
  unfold revL
  rw [h.length]
  have key : ∀ ix : List Nat, RpA K F (ix.filterMap fun (k : Nat) => vs[((ds.length : Int) - 1 + (k : Int) * (-1)).toNat]?) (ix.filterMap fun (k : Nat) => ds[((ds.length : Int) - 1 + (k : Int) * (-1)).toNat]?) := fun ix => by
    have := h.pick (ix.map fun (k : Nat) => ((ds.length : Int) - 1 + (k : Int) * (-1)).toNat)
    rw [List.filterMap_map, List.filterMap_map] at this
    exact this
  exact key _
theorem vals_rev {xs : List V} {us : List Value} (h : Vals xs us) : Vals (revL xs) (revL us) := by
  unfold revL
  rw [← h.length]
  have := vals_pick h ((List.range xs.length).map fun (k : Nat) => ((xs.length : Int) - 1 + (k : Int) * (-1)).toNat)
  rw [List.filterMap_map, List.filterMap_map] at this
  exact this
theorem rev_len {α : Type} (l : List α) : (revL l).length ≤ l.length := by
  unfold revL
  refine Nat.le_trans (List.length_filterMap_le _ _) ?_
  rw [List.length_range]
  exact Nat.le_refl _
section
variable {bb : Bool} {X : Cx} {G : Gx} {W : WX} {k : Nat} {pos p p2 p3 : Pos} {a e : Expr} {fa : M D} {j : Nat}
def tBackT (K : PySem.W.Frag) (te : TE) : TE := fun σ H Q => te σ H fun x H1 => ∃ a xs, x = .ref a ∧ SqT K H1 a xs ∧ 2 ≤ xs.length ∧ xs.length ≤ 100000 ∧ ∀ q, H1 q = none → Q (.ref q) (upd H1 q (.tup (revL xs)))
theorem pe_backT {te : TE} (he : PE X e te) : PE X (.Subscript e (.Slice none none (some (.UnaryOp .USub (.Constant (.int 1) j p) p2)) p3) pos) (tBackT X.K te) :=
  ⟨fun pins s σ H Q I h => Subscript_ (thn (he.run pins s σ H _ I h) fun v s1 ⟨x, H1, I1, r1, q⟩ => by
    refine wpAny_Slice (thn (po_none.run pins s1 σ H1 (fun o H4 => o = none ∧ H4 = H1) I1 ⟨rfl, rfl⟩) fun vl s2 ⟨l, H2, I2, pl, el, e2⟩ => ?_)
    subst el e2
    refine thn (po_none.run pins s2 σ H2 (fun o H4 => o = none ∧ H4 = H2) I2 ⟨rfl, rfl⟩) fun vh s3 ⟨hh, H3, I3, pu, eh, e3⟩ => ?_
    subst eh e3
    have st : PO X (some (.UnaryOp .USub (.Constant (.int 1) j p) p2)) (tPart (tUn (rU fun i => .int (-i)) (tC (.int 1)))) := po_some (pe_un un_neg pe_int)
    refine thn (st.run pins s3 σ H3 (fun o H4 => o = some (-1) ∧ H4 = H3) I3 ⟨1, rfl, -1, rfl, rfl, rfl⟩) fun vs s4 ⟨o, H4, I4, ps, eo, e4⟩ => ?_
    subst eo e4
    cases pl
    cases pu
    cases ps with
    | int _ tk =>
      obtain ⟨a, xs, ex, hx, n1, n2, q4⟩ := q
      subst ex
      cases r1
      have J : Inv X pins σ H4 { s4 with heap := s4.heap.push { cls := .type "slice", data := .fields #[.none, .none, .int (-1) tk] } } := I4.kept (t' := s4.toks) fun c o g => Heap.get?_push_of_some _ g
      obtain ⟨us, r, pl1, hz⟩ := J.tuple hx
      have ln := r.length
      refine tail_any (ops := [.ref a, .ref s4.heap.objs.size]) (Heap.IsTuple.typeIs pl1) slot_tuple_getitem.lookup ?_ (by with_unfolding_all rfl)
      refine getItem_tuple_back pl1 (Heap.IsSliceOf.new _ .none .none (.int (-1) tk)) (by rw [← ln]; exact n1) (by rw [← ln]; exact hz) ?_
      refine ⟨.ref _, _, J.laid (t' := s4.toks) (o := .tup (revL xs)) (fun c o g => Heap.get?_push_of_some _ g) (Nat.le_refl _) ?_, rfl, q4 _ (J.hok.fresh (Nat.le_refl _))⟩
      exact ⟨Nat.le_trans (rev_len _) hz, _, vals_rev r, _, Heap.get?_push_size _ rfl, rfl, 0, rfl⟩)⟩
def backTD (a : D) (lo hi : Option Int) : Option D := match a, lo, hi with
  | .tup l, none, none => if 2 ≤ l.length ∧ l.length ≤ 100000 then some (.tup (revL l)) else none
  | _, _, _ => none
def backTM (f : M D) : M D := M.bind f fun a => M.lift (backTD a none none)
theorem ei_backT (c : Kx bb X G W k) (ha : PE X a (tI G W fa)) : PE X (.Subscript a (.Slice none none (some (.UnaryOp .USub (.Constant (.int 1) j p) p2)) p3) pos) (tI G W (backTM fa)) :=
  PE.imp (pe_backT ha) fun σ H Q ⟨F, ρ, τ, R, q⟩ => ⟨F, ρ, τ, R, (Fin.bind q).imp fun d ρ1 F1 H1 s1 R1 q1 v rv => by
    obtain ⟨d', e, z⟩ := Fin.lift q1
    unfold backTD at e
    split at e
    · split at e
      · rename_i hl
        cases e
        cases rv with
        | @tup a2 xs2 _ h r =>
          refine ⟨_, _, rfl, ?_, by rw [r.length]; exact hl.1, by rw [r.length]; exact hl.2, fun q hq => ?_⟩
          · rw [← c.hK]
            exact .of (R1.sub _ _ h)
          · have ex : Ext F1 H1 (upd F1 q (.tup (revL xs2))) (upd H1 q (.tup (revL xs2))) := Ext.new _ R1.sub hq
            exact z _ _ ex.f (R1.ext ex) _ (.tup upd_same (r.rev.mono (same_upd (R1.sub.free hq))))
      · cases e
    · cases e⟩
end
end Dn

/-! Lambdas as objects: made -/
namespace Dn
open PySem PySem.Spec PyProof.Rows L2
structure LF where
  qual : Str
  params : Arguments
  body : Expr
  scope : Scope
  cl : List (Str × Addr)
  dV : Value
  c : Addr
abbrev LF.fd (L : LF) (doc pm ctv : Value) : FuncData := PySem.W.kdv_fn "<lambda>" L.qual L.params (.expr L.body) L.scope L.cl L.dV doc pm (.ref L.c) ctv
def LamO (f : Addr) (L : LF) : HO := .ext fun h => ∃ od sl doc pm ctv, h.get? f = some { cls := .type "function", dict := od, data := .func (L.fd doc pm ctv), slots := sl }
theorem lam_tail {X : Cx} {pins : List (Addr × Obj)} {σ : L2.St} {H : Hp} {s : Shared} {c P : Addr} {ps : Array Value} {pos : Pos} {params : Arguments} {body : Expr} {scope : Scope} {dV : Value} {E Q : Value → Shared → Prop} (I : L2.Inv X pins σ H s) (TB : LamX.TabB X.base X.mg c P) (hc : X.env.code = .ref c)
    (hP : H P = some (.tbl ps)) (ok : TriplesOk ps.toList) (miss : codeAmong pos ps.toList = none) (free : ∀ y ∈ scope.names, y.2 = .free → ∃ c, X.env.cells.lookup y.1 = some c)
    (k : ∀ (f c' : Addr) (s' : Shared), H f = none → H c' = none → f ≠ c' → f ≠ P → c' ≠ P → L2.Inv X pins σ (upd (upd (upd H P (.tbl (ps ++ #[rawInt pos.line, rawInt pos.col, .ref c']))) c' (LamX.CodeO c' (X.env.qual ++ "<lambda>"))) f (LamO f ⟨X.env.qual ++ "<lambda>", params, body, scope, cloFrom X.env.cells scope.names [], dV, c'⟩)) s' → Q (.ref f) s') :
    wpAny (model X.prog X.w) X.A (makeTail "<lambda>" (X.env.qual ++ "<lambda>") params (.expr body) scope X.env dV .none none pos pos.line) Q E s := by
  have hk := I.hok _ _ hP
  have hPs : s.heap.get? P = some (PySem.W.tabObj ps) := hk
  have lP := Heap.lt_size hPs
  have hcd : PySem.W.CodeHd s.heap c P := by
    obtain ⟨o, vs, file, tf, flags, tg, inF, text, tt, h1, h2⟩ := TB.code
    exact ⟨o, vs, file, tf, flags, tg, inF, text, tt, I.bk _ _ h1, h2⟩
  have hbm : s.heap.BuiltinsAt X.mg P := by
    obtain ⟨bm, o, h1, h2, h3, h4, h5, h6⟩ := TB.bm
    exact ⟨bm, o, h1, h2, h3, h4, I.bk _ _ h5, h6⟩
  have hns : s.heap.Ns mainGlobals X.mg := by
    obtain ⟨o, es, ep, h1, h2⟩ := I.mod.glob
    exact ⟨o, es, ep, I.bk _ _ h1, h2⟩
  refine PySem.W.kdv_makeTail (closure_ok free) I.ok.glob hns hc hcd hPs ok miss TB.gP hbm fun c' ctv doc h' tk ext lc lt rec tb => ?_
  have J := LamX.inv_table (t' := tk) (c := c') (q := X.env.qual ++ "<lambda>") I hP (fun b o hb e => ext b o hb e) tb lc (by
    obtain ⟨c2, o, vs, t, e, h1, h2, h3⟩ := rec
    cases e
    exact ⟨o, vs, t, h1, h2, h3⟩)
  have nF : H h'.objs.size = none := I.hok.fresh (by
    have : s.heap.objs.size ≤ c' := lc
    omega)
  have nC : H c' = none := I.hok.fresh lc
  have J2 := J.laid (t' := tk) (h' := h'.push (PySem.W.kdv_obj "<lambda>" (X.env.qual ++ "<lambda>") params (.expr body) scope (cloFrom X.env.cells scope.names []) dV doc ((X.mg "__name__").getD Value.none) c' ctv)) (a := h'.objs.size) (o := LamO h'.objs.size ⟨X.env.qual ++ "<lambda>", params, body, scope, cloFrom X.env.cells scope.names [], dV, c'⟩) (fun b o e => Heap.get?_push_of_some _ e) (Nat.le_refl _)
    ⟨⟨none, _, doc, _, ctv, Heap.get?_push_size _ rfl⟩, ⟨_, Heap.get?_push_size _ rfl⟩, fun h1 h2 ⟨od, sl, doc, pm, ctv, e⟩ kk => ⟨od, sl, doc, pm, ctv, kk _ e⟩⟩
  exact k h'.objs.size c' _ nF nC (Nat.ne_of_gt lt) (fun e => Nat.lt_irrefl P (Nat.lt_of_lt_of_le lP (Nat.le_trans lc (by rw [← e]; exact Nat.le_of_lt lt)))) (fun e => Nat.lt_irrefl P (Nat.lt_of_lt_of_le lP (by rw [← e]; exact lc))) J2
/-- without a default; with one -/
theorem lam_none {X : Cx} {pins : List (Addr × Obj)} {σ : L2.St} {H : Hp} {s : Shared} {c P : Addr} {ps : Array Value} {pos : Pos} {params : Arguments} {body : Expr} {scope : Scope} {E Q : Value → Shared → Prop} (I : L2.Inv X pins σ H s) (TB : LamX.TabB X.base X.mg c P) (hc : X.env.code = .ref c)
    (hP : H P = some (.tbl ps)) (ok : TriplesOk ps.toList) (miss : codeAmong pos ps.toList = none) (free : ∀ y ∈ scope.names, y.2 = .free → ∃ c, X.env.cells.lookup y.1 = some c) (hd : defaultsOf params X.env = ([], []))
    (k : ∀ (f c' : Addr) (s' : Shared), H f = none → H c' = none → f ≠ c' → f ≠ P → c' ≠ P → L2.Inv X pins σ (upd (upd (upd H P (.tbl (ps ++ #[rawInt pos.line, rawInt pos.col, .ref c']))) c' (LamX.CodeO c' (X.env.qual ++ "<lambda>"))) f (LamO f ⟨X.env.qual ++ "<lambda>", params, body, scope, cloFrom X.env.cells scope.names [], .none, c'⟩)) s' → Q (.ref f) s') :
    wpAny (model X.prog X.w) X.A (eval (.Lambda params body scope pos) X.env) Q E s := by
  refine PySem.W.kla_eval hd ?_
  rw [makeFunction_eq]
  simp only [pure_bind, List.zip_nil_right, List.filterMap_nil, List.isEmpty_nil, if_true]
  exact lam_tail I TB hc hP ok miss free k
theorem lam_one {X : Cx} {pins : List (Addr × Obj)} {σ : L2.St} {H : Hp} {s : Shared} {c P : Addr} {ps : Array Value} {pos p1 : Pos} {params : Arguments} {body : Expr} {scope : Scope} {E Q : Value → Shared → Prop} {i : Int} {j : Nat} (I : L2.Inv X pins σ H s) (TB : LamX.TabB X.base X.mg c P) (hc : X.env.code = .ref c)
    (hP : H P = some (.tbl ps)) (ok : TriplesOk ps.toList) (miss : codeAmong pos ps.toList = none) (free : ∀ y ∈ scope.names, y.2 = .free → ∃ c, X.env.cells.lookup y.1 = some c) (hd : params.defaults = [.Constant (.int i) j p1]) (hk : params.kw_defaults = [])
    (k : ∀ (f c' t : Addr) (s' : Shared), H t = none → H f = none → H c' = none → t ≠ f → t ≠ c' → t ≠ P → f ≠ c' → f ≠ P → c' ≠ P → L2.Inv X pins σ (upd (upd (upd (upd H t (.tup [.int i])) P (.tbl (ps ++ #[rawInt pos.line, rawInt pos.col, .ref c']))) c' (LamX.CodeO c' (X.env.qual ++ "<lambda>"))) f (LamO f ⟨X.env.qual ++ "<lambda>", params, body, scope, cloFrom X.env.cells scope.names [], .ref t, c'⟩)) s' → Q (.ref f) s') :
    wpAny (model X.prog X.w) X.A (eval (.Lambda params body scope pos) X.env) Q E s := by
  refine PySem.W.kdv_lam (by rw [hd]; rfl) hk ?_
  rw [hd]
  have key : wpAny (model X.prog X.w) X.A (evalAll (evalEach [Expr.Constant (.int i) j p1] X.env)) (fun dv s1 => ∃ u, dv = [u] ∧ RelV (.int i) u ∧ L2.Inv X pins σ H s1) E s := by
    refine evalAll_cons (thn ((pe_int (X := X) (i := i) (j := j) (pos := p1)).run pins s σ H (fun v H1 => v = .int i ∧ H1 = H) I ⟨rfl, rfl⟩) fun u s1 ⟨v, H1, I1, r1, q1, q2⟩ => ?_)
    subst q1
    subst q2
    exact evalAll_nil ⟨u, rfl, r1, I1⟩
  refine thn key fun dv s1 ⟨u, e, ru, J⟩ => ?_
  subst e
  rw [makeFunction_eq]
  simp only [List.zip_nil_right, List.filterMap_nil, List.isEmpty_nil, if_true, pure_bind, List.isEmpty_cons, Bool.false_eq_true, if_false]
  apply wpAny_bind; refine wpAny_newTextTuple ?_
  have nt : H s1.heap.objs.size = none := J.hok.fresh (Nat.le_refl _)
  have J2 := J.laid (t' := s1.toks) (h' := s1.heap.push { cls := .type "tuple", data := .seq [u].toArray }) (a := s1.heap.objs.size) (o := .tup [.int i]) (fun b o e => Heap.get?_push_of_some _ e) (Nat.le_refl _) ⟨by rw [sizeLine_eq]; show 1 ≤ 16777216; decide, [u], .cons ru .nil, _, Heap.get?_push_size _ rfl, rfl, 0, rfl⟩
  have tP : s1.heap.objs.size ≠ P := fun e => by rw [← e, nt] at hP; cases hP
  have hP2 : upd H s1.heap.objs.size (.tup [.int i]) P = some (.tbl ps) := by rw [upd_ne (Ne.symm tP)]; exact hP
  refine lam_tail J2 TB hc hP2 ok miss free fun f c' s' hf hc' h1 h2 h3 J3 => ?_
  have tf : s1.heap.objs.size ≠ f := fun e => by rw [← e, upd_same] at hf; cases hf
  have tc : s1.heap.objs.size ≠ c' := fun e => by rw [← e, upd_same] at hc'; cases hc'
  rw [upd_ne (Ne.symm tf)] at hf
  rw [upd_ne (Ne.symm tc)] at hc'
  exact k f c' _ s' nt hf hc' tf tc tP h1 h2 h3 J3
end Dn

/-! Lambdas as values: made by an expression; called -/
namespace Dn
open PySem PySem.Spec PyProof.Rows L2
/-- a table in which nothing stands but at the places ls -/
def TabP (H : Hp) (P : Addr) (ls : List (Nat × Nat)) : Prop := ∃ ps : Array Value, H P = some (.tbl ps) ∧ TriplesOk ps.toList ∧ ∀ pos : Pos, (pos.line, pos.col) ∉ ls → codeAmong pos ps.toList = none
theorem TabP.nil {H : Hp} {P : Addr} (h : H P = some (.tbl #[])) : TabP H P [] := ⟨#[], h, True.intro, fun pos _ => rfl⟩
theorem TabP.add {H : Hp} {P : Addr} {ps : Array Value} {ls : List (Nat × Nat)} {pos : Pos} {v : Value} (h : H P = some (.tbl (ps ++ #[rawInt pos.line, rawInt pos.col, v]))) (ok : TriplesOk ps.toList) (hl : ∀ p' : Pos, (p'.line, p'.col) ∉ ls → codeAmong p' ps.toList = none) : TabP H P ((pos.line, pos.col) :: ls) := by
  have eL : (ps ++ #[rawInt pos.line, rawInt pos.col, v]).toList = ps.toList ++ [rawInt pos.line, rawInt pos.col, v] := by simp
  refine ⟨_, h, by rw [eL]; exact TriplesOk_snoc _ _ _ _ ok, fun p' n => ?_⟩
  rw [eL]
  cases z : codeAmong p' (ps.toList ++ [rawInt pos.line, rawInt pos.col, v]) with
  | none => rfl
  | some cv =>
    rcases NdefX.among_app2 _ ok z with y | ⟨_, y1, y2⟩
    · rw [hl p' fun m => n (List.mem_cons_of_mem _ m)] at y
      cases y
    · exact absurd (List.mem_cons.mpr (.inl (by rw [y1, y2]))) n
/-- the defaults of a lambda with a parameter -/
def DfO (H : Hp) (dV : Value) : Option Int → Prop
  | none => dV = .none
  | some i => ∃ t, dV = .ref t ∧ H t = some (.tup [.int i])
structure LamAt (H : Hp) (f : Addr) (L : LF) (di : Option Int) : Prop where
  fn : H f = some (LamO f L)
  code : H L.c = some (LamX.CodeO L.c L.qual)
  df : DfO H L.dV di
theorem lamO_ne {f : Addr} {L : LF} (ps : Array Value) : LamO f L ≠ .tbl ps := fun z => by
  unfold LamO at z
  cases z
theorem LamAt.ext {H H' : Hp} {f : Addr} {L : LF} {di : Option Int} (l : LamAt H f L di) (e : LamX.ExtN H H') : LamAt H' f L di := by
  refine ⟨e _ _ l.fn lamO_ne, e _ _ l.code LamX.codeO_ne, ?_⟩
  have d := l.df
  cases di with
  | none => exact d
  | some i =>
    obtain ⟨t, h1, h2⟩ := d
    exact ⟨t, h1, e _ _ h2 fun ps z => nomatch z⟩
theorem LamAt.same {H H' : Hp} {f : Addr} {L : LF} {di : Option Int} (l : LamAt H f L di) (e : Same H H') : LamAt H' f L di := l.ext fun b o h _ => e b o h
/-- what the expression makes -/
def lamL (X : Cx) (params : Arguments) (body : Expr) (scope : Scope) (dV : Value) (c : Addr) : LF := ⟨X.env.qual ++ "<lambda>", params, body, scope, cloFrom X.env.cells scope.names [], dV, c⟩
def tLm (P : Addr) (pos : Pos) (mk : Value → Addr → LF) (di : Option Int) : TE := fun σ H Q => ∃ ls, TabP H P ls ∧ (pos.line, pos.col) ∉ ls ∧ ∀ (f : Addr) (dV : Value) (c : Addr) (H1 : Hp), LamX.ExtN H H1 → TabP H1 P ((pos.line, pos.col) :: ls) → LamAt H1 f (mk dV c) di → Q (.ref f) H1
section
variable {X : Cx} {c P : Addr} {params : Arguments} {body : Expr} {scope : Scope} {pos p1 : Pos}
theorem pe_lam0 (TB : LamX.TabB X.base X.mg c P) (hc : X.env.code = .ref c) (free : ∀ y ∈ scope.names, y.2 = .free → X.env.scope.names.lookup y.1 = some .cell ∨ X.env.scope.names.lookup y.1 = some .free) (hd : defaultsOf params X.env = ([], [])) :
    PE X (.Lambda params body scope pos) (tLm P pos (lamL X params body scope) none) := ⟨fun pins s σ H Q I ⟨ls, ⟨ps, hP, ok, hl⟩, n, k⟩ =>
  lam_none I TB hc hP ok (hl pos n) (fun y hy e => (free y hy e).elim (fun z => I.ok.has _ (.inl z)) fun z => I.ok.has _ (.inr z)) hd fun f c' s' hf hc' h1 h2 h3 J => by
    have nPc : P ≠ c' := Ne.symm h3
    have nPf : P ≠ f := Ne.symm h2
    refine ⟨.ref f, _, J, rfl, k f .none c' _ (fun b o e n => ?_) (TabP.add (by rw [upd_ne nPf, upd_ne nPc, upd_same]) ok hl) ⟨upd_same, (upd_ne (Ne.symm h1)).trans upd_same, rfl⟩⟩
    have b1 : b ≠ f := ne_of_none e hf
    have b2 : b ≠ c' := ne_of_none e hc'
    have b3 : b ≠ P := fun z => by
      rw [z, hP] at e
      exact n ps (Option.some.inj e).symm
    rw [upd_ne b1, upd_ne b2, upd_ne b3]
    exact e⟩
theorem pe_lam1 {i : Int} {j : Nat} (TB : LamX.TabB X.base X.mg c P) (hc : X.env.code = .ref c) (free : ∀ y ∈ scope.names, y.2 = .free → X.env.scope.names.lookup y.1 = some .cell ∨ X.env.scope.names.lookup y.1 = some .free) (hd : params.defaults = [.Constant (.int i) j p1]) (hk : params.kw_defaults = []) :
    PE X (.Lambda params body scope pos) (tLm P pos (lamL X params body scope) (some i)) := ⟨fun pins s σ H Q I ⟨ls, ⟨ps, hP, ok, hl⟩, n, k⟩ =>
  lam_one I TB hc hP ok (hl pos n) (fun y hy e => (free y hy e).elim (fun z => I.ok.has _ (.inl z)) fun z => I.ok.has _ (.inr z)) hd hk fun f c' t s' ht hf hc' tf tc tP h1 h2 h3 J => by
    have nPc : P ≠ c' := Ne.symm h3
    have nPf : P ≠ f := Ne.symm h2
    refine ⟨.ref f, _, J, rfl, k f (.ref t) c' _ (fun b o e n => ?_) (TabP.add (by rw [upd_ne nPf, upd_ne nPc, upd_same]) ok hl) ⟨upd_same, (upd_ne (Ne.symm h1)).trans upd_same, t, rfl, by rw [upd_ne tf, upd_ne tc, upd_ne tP, upd_same]⟩⟩
    have b1 : b ≠ f := ne_of_none e hf
    have b2 : b ≠ c' := ne_of_none e hc'
    have b4 : b ≠ t := ne_of_none e ht
    have b3 : b ≠ P := fun z => by
      rw [z, hP] at e
      exact n ps (Option.some.inj e).symm
    rw [upd_ne b1, upd_ne b2, upd_ne b3, upd_ne b4]
    exact e⟩
end
/-! ### called -/
abbrev LF.nf (L : LF) : NdefX.NF := ⟨"<lambda>", L.qual, L.params, [], L.scope, L.cl, L.c⟩
abbrev lcx (P : Program) (w : World) (K : PySem.W.Frag) (mg : Str → Option Value) (base : Heap) (N : List Str) (L : LF) (f : Addr) (A : Around) (outer : List Env) (s : Shared) (H : Hp) (E : XK) : Cx := NdefX.ncx (L2N.CX P w) P w K mg base N L.nf f A outer s H E
def diD : Option Int → List D
  | none => []
  | some i => [.int i]
theorem start_F {N : List Str} {vs us : List V} : NdefX.startF N vs (us.map some) = L2.start N (vs ++ us) := by
  unfold NdefX.startF L2.start
  rw [List.map_append, List.append_assoc, List.length_append, List.length_map, Nat.sub_add_eq]
/-- an error let out by a lambda's body -/
theorem lam_call {P : Program} {w : World} {K : PySem.W.Frag} {mg : Str → Option Value} {base : Heap} {ex : Nat → Value} {L : LF} {ps fr : List Str} {di : Option Int} {k : Nat} {m : M D} {e : Exn} {ρ' : Sto}
    (S : NdefX.NScope (ps ++ fr) ps fr L.scope) (hps : ps.length = (diD di).length)
    (hb0 : di = none → L.dV = .none → ∀ doc pm ctv, bindArgs (L.fd doc pm ctv) ⟨[], []⟩ = pure [])
    (hb1 : ∀ i t, di = some i → L.dV = .ref t → ∀ doc pm ctv, ∃ k, bindArgs (L.fd doc pm ctv) ⟨[], []⟩ = seqItems? (L.fd doc pm ctv).defaults >>= k ∧ ∀ u, k (some #[u]) = pure (ps.zip [u]))
    (hbody : ∀ (A : Around) (outer : List Env) (s : Shared) (H : Hp) (E : XK) (f : Addr) (G : Gx), G.ex = ex → Kx true (lcx P w K mg base (ps ++ fr) L f A outer s H E) G (WD E) k → PE (lcx P w K mg base (ps ++ fr) L f A outer s H E) L.body (tI G (WD E) m))
    {A : Around} {outer : List Env} {s : Shared} {H F : Hp} {f : Addr} {Q : VK} {E : XK} {vs : List V} {ds : List D} (hr : Room (k + 1) A) (e0 : Env0 P w K mg base A outer s H) (l : LamAt H f L di) (C : NdefX.CellsAt L.cl fr (vs.map some) s.heap H) (sF : Same F H) (r : RpA K F vs ds)
    (hm : m (start0 (ps ++ fr).length (diD di ++ ds)) = some (.exc e ρ')) (hE : ∀ F' H' cls dd, Ext F H F' H' → ExR K ex F' H' e cls dd → E cls dd H') :
    codeAny (model P w) A (.call (.ref f) ⟨[], []⟩) (CR (L2N.CX P w) outer P w H s Q E) s := by
  obtain ⟨⟨od, sl, doc, pm, ctv, ho⟩, _, _⟩ := e0.hok f _ l.fn
  have nlim : s.heap.NoLimit := e0.mod.nolimit.keeps (fun b o e => (e0.bs b o e).1)
  obtain ⟨us, rus, vsP, rvs, bind⟩ : ∃ us : List Value, us.length = ps.length ∧ ∃ vsP : List V, (Vals vsP us ∧ RpA K F vsP (diD di)) ∧ BindsTo s (L.fd doc pm ctv) ⟨[], []⟩ (ps.zip us) := by
    have d := l.df
    cases di with
    | none =>
      have d : L.dV = .none := d
      have hp0 : ps = [] := List.length_eq_zero_iff.mp hps
      subst hp0
      exact ⟨[], rfl, [], ⟨.nil, .nil⟩, .of_eq (hb0 rfl d doc pm ctv)⟩
    | some i =>
      obtain ⟨t, h1, h2⟩ := d
      obtain ⟨h3, us, r1, o, h4, h5, n, h6⟩ := e0.hok t _ h2
      obtain ⟨k', h7, h8⟩ := hb1 i t rfl h1 doc pm ctv
      cases r1 with
      | cons r2 r3 =>
        cases r3
        rename_i u
        exact ⟨[u], hps.symm, [.int i], ⟨.cons r2 .nil, .cons (.int i) .nil⟩, PySem.BindsTo.of_defaults h1 h4 h6 h7 (h8 u)⟩
  refine PySem.W.kla_callFunE hr.depth ho rfl S.co S.gen rfl (NdefX.codeO_at e0.hok l.code) (bind _ _ _ _ ?_)
  have C' := C.len
  have hvl : vsP.length = ps.length := by rw [rvs.1.length]; exact rus
  have hdv : vs.length = fr.length := by rw [← C', List.length_map]
  refine wpAny_newFunctionEnv S.nocell (fun ⟨n, _⟩ hy => S.par n (List.of_mem_zip hy).1) (fun h₁ hns hsb => ⟨nlim.fresh _ hsb, ?_⟩) S.kind
  show codeAny _ _ (.expr L.body (NdefX.envF L.nf f s.heap.objs.size)) _ _
  have kept : ∀ b o, s.heap.get? b = some o → h₁.get? b = some o := fun b o e => hsb.extBut b o (Nat.ne_of_lt (Heap.lt_size e)) (Heap.get?_push_of_some _ e)
  have I : Inv (lcx P w K mg base (ps ++ fr) L f A outer s H E) [] (NdefX.startF (ps ++ fr) vsP (vs.map some)) H { s with heap := h₁, toks := s.toks + (ps.zip us).length } := NdefX.inv_startN (F := L.nf) S hr.hd e0 hvl rvs.1 C hns kept
  rw [start_F] at I
  have hkx : Kx true (lcx P w K mg base (ps ++ fr) L f A outer s H E) ⟨K, F, H, [], ex⟩ (WD E) k := ⟨rfl, L2N.takes_of rfl rfl rfl rfl, (hr.deeper _).un, S.nd, fun _ => hr.deeper _, fun _ => rfl, fun z => nomatch z⟩
  refine PySem.W.kla_codeExpr (wpAny_mono ((hbody A outer s H E f ⟨K, F, H, [], ex⟩ rfl hkx).run [] _ _ H (fun _ _ => False) I ⟨F, _, [], start_rep sF (rvs.2.append r) (ps := ps ++ fr) (by rw [List.length_append, List.length_append, hvl, hdv]) (Nat.le_refl _), ?_⟩) (fun v s' hq => ?_) fun e s' hq => hq)
  · rw [hm]
    exact fun F' H' cls dd s' R' xr => hE F' H' cls dd R'.out xr
  · obtain ⟨_, _, _, _, z⟩ := hq
    exact z.elim
end Dn

/-! A list made by a comprehension, where something is known of the state at which it begins -/
namespace Dn
open PySem PySem.Spec PyProof.Rows L2
section
variable {X : Cx} {elt tg iter : Expr} {scope : Scope} {own : List (Str × Nat)} {pos : Pos} {wi : TI} {g : TG} {te : TE} {PZ : L2.St → Prop} {Z : Shared → Hp → List Addr → Prop}
theorem pe_lcZ (calm : X.calm = true) (nd : X.N.Nodup) (hi : PI X tg iter wi) (ok : BlkOk X.N X.env.scope scope own)
    (mkZ : ∀ (pins : List (Addr × Obj)) (σ : L2.St) (s : Shared) (H : Hp) (fp : List Addr), L2.Inv X pins σ H s → PZ σ → (∀ b ∈ fp, FpOk X pins H b) → Z s H fp)
    (hg : ∀ (s : Shared) (H : Hp) (C : Addr) (cl : List (Str × Addr)) (fp : List Addr), PG (X.blk s H scope (compEnvC scope cl C X.env) fp) tg g)
    (he : ∀ (s : Shared) (H : Hp) (C : Addr) (cl : List (Str × Addr)) (fp : List Addr), Z s H fp → PE (X.blk s H scope (compEnvC scope cl C X.env) fp) elt te)
    (hs : ∀ x, foldedSetIterable iter X.env x = pure x := by intro _; rfl) :
    PE X (.ListComp elt [⟨tg, iter, [], 0⟩] scope pos) (fun σ H Q => PZ σ ∧ tLc wi g tYes te (own.map (·.2)) σ H Q) := by
  refine ⟨fun pins s σ H Q I ⟨hz, hl⟩ => ?_⟩
  rw [eval_ListComp]
  have cf : ∀ y ∈ scope.names, y.2 = .free → ∃ c, X.env.cells.lookup y.1 = some c := fun y hy e => (ok.free y hy e).elim (fun z => I.ok.has _ (.inl z)) fun z => I.ok.has _ (.inr z)
  refine wpAny_comprehension_free (use := none) rfl hs (closure_ok cf) ok.kind (fun y hy e => (ok.uniq y hy).trans (congrArg some e)) (thn (hi.run pins s σ H _ I hl) fun v1 t1 h1 => thn h1 fun v2 t2 ⟨it, fp, tn, J, K2, e2, I2, T, tn0, fk, q2⟩ => ?_)
  subst e2
  refine wpAny_newObj_type (newEnv_comp ?_) (Nat.zero_le _)
  have nL : K2 t2.heap.objs.size = none := I2.hok.fresh (Nat.le_refl _)
  obtain ⟨W, ⟨n0, w0⟩, turn⟩ := q2 _ nL
  -- with the list
  generalize ht3 : ({ t2 with heap := t2.heap.push { cls := .type "list", data := .seq ([] : List Value).toArray } } : Shared) = t3
  have ht3h : t3.heap = t2.heap.push { cls := .type "list", data := .seq ([] : List Value).toArray } := by subst ht3; rfl
  generalize hL : t2.heap.objs.size = Lq at nL w0 turn ⊢
  generalize hK3 : upd K2 Lq (.lst []) = K3 at w0
  have I3 : L2.Inv X pins σ K3 t3 := by
    subst hK3
    subst hL
    subst ht3
    exact I2.laid (t' := t2.toks) (fun b o e => Heap.get?_push_of_some _ e) (Nat.le_refl _) ⟨Nat.zero_le _, [], 0, .nil, Heap.get?_push_size _ rfl⟩
  have old : ∀ b ∈ fp, b < t2.heap.objs.size := fun b hb => let ⟨o, e, _⟩ := T.obj _ _ tn0 b hb; Heap.lt_size e
  have fk3 : ∀ b ∈ fp, FpOk X pins K3 b := fun b hb => by
    have ne : b ≠ Lq := by
      subst hL
      exact Nat.ne_of_lt (old b hb)
    refine ⟨?_, (fk b hb).2⟩
    subst hK3
    rw [upd_ne ne]
    exact (fk b hb).1
  have lt3 : ∀ b ∈ fp, b < t3.heap.objs.size := fun b hb => by rw [ht3h, Heap.size_push]; exact Nat.lt_succ_of_lt (old b hb)
  have tn3 : tn 0 t3.heap := T.keep _ _ _ tn0 fun b _ o e => by rw [ht3h]; exact Heap.get?_push_of_some _ e
  have zz : Z t3 K3 fp := mkZ pins σ t3 K3 fp I3 hz fk3
  have I4 := block_start I3 ok nd fun b hb => ⟨fk3 b hb, lt3 b hb⟩
  show codeAny _ _ (.compStart (.ListComp elt [⟨tg, iter, [], 0⟩] scope pos) 0 (.ref it) (.ref Lq) (compEnvC scope (cellsFrom (t3.heap.objs.size + 1) scope.names (cloFrom X.env.cells scope.names [])) t3.heap.objs.size X.env)) (compPost (model X.prog X.w) X.A X.xe none _ (.ref Lq) t3.heap.objs.size) { t3 with heap := pushCells (t3.heap.push { cls := .type "dict", data := .dict #[] }) scope.names }
  generalize hcl : cellsFrom (t3.heap.objs.size + 1) scope.names (cloFrom X.env.cells scope.names []) = cl at I4 ⊢
  have pe := he t3 K3 t3.heap.objs.size cl fp zz
  have pg := hg t3 K3 t3.heap.objs.size cl fp
  generalize hce : compEnvC scope cl t3.heap.objs.size X.env = ce at I4 pe pg ⊢
  have ceL : ce.locals = t3.heap.objs.size := by subst hce; rfl
  generalize ht4 : ({ t3 with heap := pushCells (t3.heap.push { cls := .type "dict", data := .dict #[] }) scope.names } : Shared) = t4 at I4 ⊢
  have tn4 : tn 0 t4.heap := by
    subst ht4
    exact T.keep _ _ _ tn3 fun b _ o e => pushCells_keeps _ _ _ _ (Heap.get?_push_of_some _ e)
  have fkB : ∀ {σ' : L2.St} {H' : Hp} {t : Shared}, L2.Inv (X.blk t3 K3 scope ce fp) [] σ' H' t → (∀ b ∈ fp, H' b = none) → ∀ b ∈ fp, FpOk (X.blk t3 K3 scope ce fp) [] H' b := fun {σ' H' t} J n b hb =>
    ⟨n b hb, (J.ok.exf b hb).1, J.ok.exfs b hb, .inl hb, (J.ok.exf b hb).2, fun p hp => (nomatch (show p ∈ ([] : List (Addr × Obj)) from hp))⟩
  have run : codeAny (model X.prog X.w) X.A (.compLoop (.ListComp elt [⟨tg, iter, [], 0⟩] scope pos) 0 (.ref it) (.ref Lq) ce) (compPost (model X.prog X.w) X.A X.xe none (EP X pins σ Q) (.ref Lq) t3.heap.objs.size) t4 := by
    refine compLoop_any (fun m t => ∃ i H', L2.Inv (X.blk t3 K3 scope ce fp) [] (wipe σ (own.map (·.2))) H' t ∧ tn i t.heap ∧ (∀ b ∈ fp, H' b = none) ∧ W i m H') ?_ n0 ⟨0, K3, I4, tn4, fun b hb => (fk3 b hb).1, w0⟩
    rintro m t5 ⟨i, K5, I5, tn5, no5, w5⟩
    rcases turn i m K5 w5 with ⟨st, fin⟩ | ⟨go, Nx, next, step⟩
    · -- the end
      refine thnF (T.done (X.blk t3 K3 scope ce fp) rfl rfl rfl calm i [] t5 _ K5 (fun _ _ => False) I5 (fkB I5 no5) tn5 st) fun r t6 ⟨er, I6⟩ => ?_
      subst er
      have I7 : L2.Inv X pins σ K5 t6 := I3.call' (ch := fp) I6.os I6.base I6.hok I6.bare fun b hb => let ⟨_, x1, _, x2, x3, x4⟩ := fk3 b hb; ⟨x2, x1, x3, x4⟩
      have nE : K5 t3.heap.objs.size = none := by
        rw [← ceL]
        exact I6.free
      obtain ⟨ns, hns, _⟩ := I6.loc
      have hns : t6.heap.Ns ce.locals ns := hns
      rw [ceL] at hns
      obtain ⟨x0, x1, x2, x3, x4, x5⟩ := I3.fpOk (Nat.le_refl _) nE
      exact ⟨ns, hns, fun h'' sb => ⟨.ref Lq, K5, I7.turned (t' := t6.toks) (fun b o hb e => (sb.2 b hb).trans e) x0 x1 x3 x4 x5, rfl, fin⟩⟩
    · refine thnF (T.item (X.blk t3 K3 scope ce fp) rfl rfl rfl calm i [] t5 _ K5 (fun _ _ => False) I5 (fkB I5 no5) tn5 go) fun r t6 ⟨u, er, h6⟩ => ?_
      subst er
      refine thnF h6 fun _ t7 ⟨x, K7, I7, rx, yd, tn7, no7⟩ => ?_
      have I7' := I7.pinned (fkB I7 no7) (T.obj _ _ tn7)
      refine thnF (pg.run _ t7 _ K7 x u _ I7' rx (step x K7 yd)) fun _ t8 ⟨σ8, K8, I8, ew, q8⟩ => ?_
      refine thnF ((pts_nil (X := X.blk t3 K3 scope ce fp)).run _ t8 σ8 K8 _ I8 q8) fun b t9 ⟨K9, I9, qb⟩ => ?_
      have endT : ∀ {t : Shared} {H' : Hp}, L2.Inv (X.blk t3 K3 scope ce fp) ([] ++ pinsAt fp t7.heap) σ8 H' t → Nx H' → ∃ m', m' < m ∧ ∃ i H', L2.Inv (X.blk t3 K3 scope ce fp) [] (wipe σ (own.map (·.2))) H' t ∧ tn i t.heap ∧ (∀ b ∈ fp, H' b = none) ∧ W i m' H' := fun {t H'} J nx => by
        obtain ⟨m', lm, wn⟩ := next H' nx
        have pk : ∀ b ∈ fp, ∀ o, t7.heap.get? b = some o → t.heap.get? b = some o ∧ H' b = none := fun b hb o e =>
          let z := J.pin (b, o) (List.mem_append_right _ (List.mem_append_right _ (mem_pinsAt hb e)))
          ⟨z.1, z.2.1⟩
        refine ⟨m', lm, i + 1, H', (J.unpinned (pins := [])).weak (by rw [← ew, wipe_length]) (fun j v e => ?_), T.keep _ _ _ tn7 fun b hb o e => (pk b hb o e).1, fun b hb => let ⟨o, e, _⟩ := T.obj _ _ tn7 b hb; (pk b hb o e).2, wn⟩
        rw [← ew] at e
        exact (wipe_some e).1
      cases b with
      | false =>
        simp only [Bool.false_eq_true, if_false] at qb ⊢
        exact endT I9 qb
      | true =>
        simp only [if_true] at qb ⊢
        refine thnF (pe.run _ t9 σ8 K9 _ I9 qb) fun z t10 ⟨yv, K10, I10, r10, acc, hacc, la, nx⟩ => ?_
        exact app_ok (X := X.blk t3 K3 scope ce fp) I10 hacc la r10 fun t11 I11 => endT I11 nx
  exact codeAny_compStart_list run (T.self X.A 0 _ _ _ tn4 run)
end
end Dn

/-! A def that calls what it is handed, within a try -/
namespace Dn
open PySem PySem.Spec PyProof.Rows L2
/-- what a lambda does when called: it lets an error out -/
def LRun (P : Program) (w : World) (K : PySem.W.Frag) (mg : Str → Option Value) (base : Heap) (ex : Nat → Value) (k : Nat) (L : LF) (di : Option Int) (fr : List Str) (ds : List D) (e : Exn) : Prop :=
  ∀ (A : Around) (outer : List Env) (s : Shared) (H F : Hp) (f : Addr) (Q : VK) (E : XK) (vs : List V), Room k A → Env0 P w K mg base A outer s H → LamAt H f L di → NdefX.CellsAt L.cl fr (vs.map some) s.heap H → Same F H → RpA K F vs ds →
    (∀ F' H' cls dd, Ext F H F' H' → ExR K ex F' H' e cls dd → E cls dd H') → codeAny (model P w) A (.call (.ref f) ⟨[], []⟩) (CR (L2N.CX P w) outer P w H s Q E) s
/-- the cells of a lambda where a frame was entered: what they hold then -/
structure CellZ (X : Cx) (L : LF) (fr : List Str) (vs : List V) : Prop where
  at_ : NdefX.CellsAt L.cl fr (vs.map some) X.s_0.heap X.H_0
  nf : ∀ y c, L.cl.lookup y = some c → c ∉ X.fs
  nx : ∀ y c, L.cl.lookup y = some c → c ∉ X.ex
section
variable {X : Cx} {G : Gx} {W : WX} {k j i : Nat} {L : LF} {di : Option Int} {fr : List Str} {vs : List V} {ds : List D} {e : Exn} {f : Addr} {x : Str} {p pos : Pos}
theorem pe_work (c : Kx true X G W k) (hj : j ≤ k) (lr : LRun X.prog X.w X.K X.mg X.base G.ex j L di fr ds e) (C : CellZ X L fr vs) (la : LamAt G.H0 f L di) (io : G.io = []) (r : RpA G.K G.F0 vs ds) (hN : X.N[i]? = some x) (hv : Vis X.env.scope x)
    (hd : (x == ("__debug__" : Str)) = false := by decide) (hcd : (x == ("__classdict__" : Str)) = false := by decide) :
    PE X (.Call (.Name x p) [] [] pos) (fun σ H Q => σ[i]? = some (some (.ref f)) ∧ tI G W (fun ρ => some (.exc e ρ)) σ H Q) := by
  refine ⟨fun pins s σ H Q I ⟨hs, F, ρ, τ, R, q⟩ => ?_⟩
  refine wpAny_Call_Name_kw (thn ((pe_var (pos := p) hN hv hd hcd).run pins s σ H (fun v H1 => v = .ref f ∧ H1 = H) I ⟨.ref f, hs, rfl, rfl⟩) fun u s1 ⟨v, H1, I1, r1, q1, q2⟩ => ?_)
  subst q1
  subst q2
  obtain rfl : u = Value.ref f := r1
  have lb : LamAt H1 f L di := la.same fun a o h => R.keep a o (by rw [io]; exact fun z => nomatch z) h
  obtain ⟨⟨od, sl, doc, pm, ctv, ho⟩, _, _⟩ := I1.hok f _ lb.fn
  refine PySem.W.callWith_F0 (first := []) ⟨_, _, _, _, ho⟩ ?_
  show wpAny _ _ (call (.ref f) []) _ _ _
  refine wpAny_call (codeAny_mono (lr X.A X.stack s1 H1 F f (fun _ _ => False) (fun cls d H' => ∃ F', Ext F H1 F' H' ∧ ExR G.K G.ex F' H' e cls d) vs ((c.hr rfl).mono hj) I1.env0 lb (C.at_.later C.nf C.nx I1) R.sub (by rw [← c.hK]; exact r.mono R.base) (fun F' H' cls dd ex xr => ⟨F', ex, by rw [c.hK]; exact xr⟩)) fun r s' hq => ?_)
  cases r with
  | error e' => exact c.tk e' s' (L2N.XE.of_call I1 (fun cls d H' ⟨F', ex, xr⟩ => q F' H' cls d ex.f (R.ext ex) xr) hq)
  | ok fl =>
    cases fl with
    | ret u => obtain ⟨_, _, _, _, _, _, _, z⟩ := hq; exact z.elim
    | next => exact False.elim hq
    | brk => exact False.elim hq
    | cont => exact False.elim hq
theorem pss_imp {b : List Stmt} {t t' : TS} (h : PSs X b t) (k : ∀ E σ H, t' E σ H → t E σ H) : PSs X b t' := PSs.imp h k
variable {g h : M Out} {body suite : List Stmt} {b₀ : Stmt} {y : Str} {pos' : Pos}
/-- try with something known of the names -/
theorem es_tryK {Kn : L2.St → Prop} {i m : Nat} {ex : Nat → Value} {hit : Nat → Option Bool} (c : Kx true X G W k) (D : ExcAt X.K X.mg ex x m)
    (hb : ∀ (pn : List (Addr × Obj)) (xe : Value → Shared → Prop) (W' : WX), Kx true (X.tr pn xe) G W' k → PSs (X.tr pn xe) body (fun E σ H => Kn σ ∧ tS G W' g E σ H))
    (hsu : ∀ (a : Addr) (pn : List (Addr × Obj)), Kx false (X.suite a pn) G W0 k → PSs (X.suite a pn) (b₀ :: suite) (tS G W0 h))
    (hh : ∀ n b C, ex m = .ref C → hit n = some b → PySem.W.exmOne X.K (ex n) (.ref C) = some b)
    (hs : X.stack = X.env :: X.outer := by rfl) (hf : X.env.frame = some X.env.locals := by rfl) (hi : X.N[i]? = some y := by rfl) (hln : X.env.kindOf y = some .local := by rfl) (hex : G.ex = ex := by rfl) (hg : Gl X x := by rfl) (hdb : (x == ("__debug__" : Str)) = false := by decide) :
    PS X (.Try body [.ExceptHandler (some (.Name x p)) (some y) (b₀ :: suite) pos'] [] [] pos) (fun E σ H => Kn σ ∧ tS G W (tryM g i hit h) E σ H) := by
  obtain ⟨C, h1, h2, h3, h4, h5, h6, _⟩ := D.ex
  refine PS.imp (L2N.ps_try_as (tb := fun W' E σ H => Kn σ ∧ tS G W' g E σ H) (ts := fun _ _ _ => tS G W0 h) hs hf c.nd hi hln ⟨hg, hdb, .inl h1⟩ c.tk (fun W' pn xe tk po => hb pn xe W' ⟨c.hK, tk, c.un, c.nd, c.hr, c.calm, fun z => (nomatch z)⟩) (fun a oe cls d pn z ⟨us, hv⟩ => hsu a _ ?_)) fun E σ H ⟨kn, F, ρ, τ, R, q⟩ => ⟨kn, F, ρ, τ, R, ?_⟩
  · exact ⟨c.hK, takes0, c.un, c.nd, fun z => (nomatch z), fun z => (nomatch z), fun _ => ⟨⟨_, ⟨rfl, us, hv, z.2.2 us hv⟩, List.mem_cons_self⟩, (c.hr rfl).dp, (c.hr rfl).un⟩⟩
  · unfold tryM at q
    match u : g ρ with
    | none => rw [u] at q; exact q.elim
    | some (.ok o ρ') => rw [u] at q; exact FinS.anyW q
    | some (.exc e ρ') =>
      simp only [u] at q
      intro F' H' σ' cls dd s' R' xr
      have hc : cls = ex e.c := by rw [← hex]; exact xr.1
      match v : hit e.c with
      | none => rw [v] at q; exact q.elim
      | some false =>
        rw [v] at q
        exact ⟨false, by rw [hc]; exact hh _ _ _ h2 v, fun z => (nomatch z), fun _ => q F' H' σ' cls dd s' R' xr⟩
      | some true =>
        rw [v] at q
        exact ⟨true, by rw [hc]; exact hh _ _ _ h2 v, fun _ a na => ⟨F', _, τ, R'.clear i _, fin_suite (FinS.mono s' q)⟩, fun z => (nomatch z)⟩
/-- the state at the entry when the arguments are no data -/
theorem start_repE {K : PySem.W.Frag} {ex : Nat → Value} {F H : Hp} {N : List Str} {vs : List V} (s : Same F H) (hn : vs.length ≤ N.length) : Rep ⟨K, F, H, [], ex⟩ F H (List.replicate N.length Slot.emp) (L2.start N vs) [] := by
  have hl : (L2.start N vs).length = N.length := by unfold L2.start; rw [List.length_append, List.length_map, List.length_replicate]; omega
  refine ⟨s, Same.refl _, fun a h1 h2 => absurd h2 h1, fun a o _ h => h, fun a h => h, by rw [hl, List.length_replicate], fun i t h => ?_, fun i j t u hij hi hj ht hu => ?_, fun t ht => (nomatch ht), List.nodup_nil⟩
  · have hi := (List.getElem?_eq_some_iff.mp h).1
    rw [List.getElem?_replicate] at h
    split at h
    · cases h
      rw [List.length_replicate, ← hl] at hi
      exact ⟨_, List.getElem?_eq_getElem hi, trivial⟩
    · cases h
  · rw [List.getElem?_replicate] at hi
    split at hi
    · cases hi
      cases ht
    · cases hi
end
/-- the def's body, what it is handed a lambda at f: b -/
theorem bad_call {P : Program} {w : World} {K : PySem.W.Frag} {mg : Str → Option Value} {base : Heap} {ex : Nat → Value} {x : Str} {st : Stmt} {N : List Str} {k : Nat} {L : LF} {di : Option Int} {fr : List Str} {vs : List V} {ds : List D} {e : Exn} {fg f : Addr} {fd : FuncData} {gb : M Out} {r : D} {ρ' : Sto} {a : Str}
    (Fn : Fun K x x st fg fd) (hb : Binds K fd [a] []) (S : FnScope N [a] (defScope st)) (hN : 1 ≤ N.length)
    (hbody : ∀ (cdv : Value) (A : Around) (outer : List Env) (s : Shared) (H : Hp) (E : XK) (G : Gx), G.ex = ex → Kx true (cxB true (L2N.CX P w) P w K mg base N x (defScope st) fg cdv A outer s H E []) G (WD E) k →
      CellZ (cxB true (L2N.CX P w) P w K mg base N x (defScope st) fg cdv A outer s H E []) L fr vs → LamAt G.H0 f L di → G.io = [] → RpA G.K G.F0 vs ds → PSs (cxB true (L2N.CX P w) P w K mg base N x (defScope st) fg cdv A outer s H E []) (defBody st) (fun En σ H => σ[0]? = some (some (.ref f)) ∧ tS G (WD E) gb En σ H))
    (hgb : gb (List.replicate N.length Slot.emp) = some (.ok (.ret r) ρ'))
    {A : Around} {outer : List Env} {s : Shared} {H F : Hp} {Q : VK} {E : XK} (hr : Room (k + 1) A) (e0 : Env0 P w K mg base A outer s H) (l : LamAt H f L di) (C : NdefX.CellsAt L.cl fr (vs.map some) s.heap H) (nf : ∀ y c, L.cl.lookup y = some c → c ∉ frs outer) (sF : Same F H) (rv : RpA K F vs ds)
    (hQ : ∀ F' H' v, Ext F H F' H' → Rp K F' v r → Q v H') :
    codeAny (model P w) A (.call (.ref fg) ⟨[.ref f], []⟩) (CR (L2N.CX P w) outer P w H s Q E) s := by
  have kin : K.In s.heap := e0.mod.kin.keeps fun b o e => (e0.bs b o e).1
  have hbs := hb s [.ref f] kin rfl
  obtain ⟨oc, od, kV, doc, pm, an, cdv, ct, osl, rfl, lk, hcd⟩ := Fn.ex
  refine LamX.run_ofS (N := N) (ps := [a]) (us := [.ref f]) (vs := [.ref f]) lk hcd S hr e0 hbs (.cons rfl .nil) rfl fun hr' => ?_
  have hkx := kx_def (G := ⟨K, F, H, [], ex⟩) (bb := true) (P := P) (w := w) (mg := mg) (base := base) (qual := x) (f := fg) (cdv := cdv) (outer := outer) (E := E) (pn := []) (H := H) (F := F) S rfl (fun _ => hr') fun z => nomatch z
  refine ⟨_, hbody cdv A outer s H E ⟨K, F, H, [], ex⟩ rfl hkx ⟨C, nf, fun y c _ z => nomatch z⟩ l rfl rv, ?_⟩
  have h0 : (L2.start N [V.ref f])[0]? = some (some (V.ref f)) := by unfold L2.start; rfl
  refine ⟨h0, F, _, [], start_repE sF (by exact hN), ?_⟩
  rw [hgb]
  exact fun F' H' σ' v s' R' rr => hQ F' H' v R'.out rr
end Dn

/-! Lists of lambdas; a def called with one of them -/
namespace Dn
open PySem PySem.Spec PyProof.Rows L2
structure LK where
  lf : Value → Addr → LF
  di : Option Int
  fr : List Str
  vs : List V
  ds : List D
def IsLam (ks : List LK) (H : Hp) (v : V) : Prop := ∃ (f : Addr) (κ : LK) (dV : Value) (c : Addr), κ ∈ ks ∧ v = .ref f ∧ LamAt H f (κ.lf dV c) κ.di
theorem IsLam.ext {ks : List LK} {H H' : Hp} {v : V} (l : IsLam ks H v) (e : LamX.ExtN H H') : IsLam ks H' v := let ⟨f, κ, dV, c, h1, h2, h3⟩ := l; ⟨f, κ, dV, c, h1, h2, h3.ext e⟩
theorem IsLam.same {ks : List LK} {H H' : Hp} {v : V} (l : IsLam ks H v) (e : Same H H') : IsLam ks H' v := l.ext fun b o h _ => e b o h
/-- a def at fg that answers r when it is handed a lambda that lets e out -/
def ErrRun (P : Program) (w : World) (K : PySem.W.Frag) (mg : Str → Option Value) (base : Heap) (ex : Nat → Value) (j j' : Nat) (fg : Addr) (e : Exn) (r : D) : Prop :=
  ∀ (L : LF) (di : Option Int) (fr : List Str) (vs : List V) (ds : List D) (f : Addr), LRun P w K mg base ex j L di fr ds e → ∀ (A : Around) (outer : List Env) (s : Shared) (H F : Hp) (Q : VK) (E : XK), Room j' A → Env0 P w K mg base A outer s H → LamAt H f L di →
    NdefX.CellsAt L.cl fr (vs.map some) s.heap H → (∀ y c, L.cl.lookup y = some c → c ∉ frs outer) → Same F H → RpA K F vs ds → (∀ F' H' v, Ext F H F' H' → Rp K F' v r → Q v H') →
    codeAny (model P w) A (.call (.ref fg) ⟨[.ref f], []⟩) (CR (L2N.CX P w) outer P w H s Q E) s
section
variable {X : Cx} {G : Gx} {W : WX} {k j j' i n : Nat} {ks : List LK} {e : Exn} {r : D} {fg P : Addr} {x y : Str} {p p2 pos : Pos} {ex : Nat → Value}
theorem pe_errcall (c : Kx true X G W k) (hj : j' ≤ k) (er : ErrRun X.prog X.w X.K X.mg X.base ex j j' fg e r) (hm : X.mg x = some (.ref fg)) (hk : PySem.W.keepIn X.K (.ref fg) = true) (hN : X.N[i]? = some y) (hv : Vis X.env.scope y)
    (hl : ∀ κ ∈ ks, ∀ dV c, LRun X.prog X.w X.K X.mg X.base ex j (κ.lf dV c) κ.di κ.fr κ.ds e) (hz : ∀ κ ∈ ks, ∀ dV c, CellZ X (κ.lf dV c) κ.fr κ.vs ∧ ∀ y a, (κ.lf dV c).cl.lookup y = some a → a ∉ frs X.stack)
    (hg : Gl X x := by rfl) (hdb : (x == ("__debug__" : Str)) = false := by decide) (hd : (y == ("__debug__" : Str)) = false := by decide) (hcd : (y == ("__classdict__" : Str)) = false := by decide) :
    PE X (.Call (.Name x p) [.Name y p2] [] pos) (fun σ H Q => ∃ f κ dV c, κ ∈ ks ∧ σ[i]? = some (some (.ref f)) ∧ LamAt H f (κ.lf dV c) κ.di ∧ (∃ F, Same F H ∧ RpA X.K F κ.vs κ.ds ∧ ∀ F' H' v, Ext F H F' H' → Rp X.K F' v r → Q v H')) := by
  refine ⟨fun pins s σ H Q I ⟨f, κ, dV, cc, hκ, hs, la, F, sF, rF, q⟩ => ?_⟩
  obtain ⟨cz, nst⟩ := hz κ hκ dV cc
  refine wpAny_Call_Name_kw (ld_glob I hg hm (PySem.W.callWith_K (h₀ := X.base) I.ok.mod.kin hk ?_ (by rfl) (by rfl)) hdb)
  show wpAny _ _ (spliced ((false, eval (.Name y p2) X.env) :: backTo pos (starEach [] X.env))) _ _ s
  refine Calls.spliced_cons (thn ((pe_var (pos := p2) hN hv hd hcd).run pins s σ H (fun v H1 => v = .ref f ∧ H1 = H) I ⟨.ref f, hs, rfl, rfl⟩) fun u s1 ⟨v, H1, I1, r1, q1, q2⟩ => ?_)
  subst q1
  subst q2
  obtain rfl : u = Value.ref f := r1
  refine Calls.spliced_nil ⟨I1.kIn, wpAny_call (codeAny_mono (er _ _ _ κ.vs κ.ds f (hl κ hκ dV cc) X.A X.stack s1 H1 F Q (fun _ _ _ => False) ((c.hr rfl).mono hj) I1.env0 la (cz.at_.later cz.nf cz.nx I1) nst sF rF q) fun r s' hq => ?_)⟩
  cases r with
  | error e' => exact c.tk e' s' (L2N.XE.of_call I1 (fun cls d H' z => False.elim z) hq)
  | ok fl =>
    cases fl with
    | ret u => exact I1.after hq
    | next => exact False.elim hq
    | brk => exact False.elim hq
    | cont => exact False.elim hq
/-! ### lists of lambdas made -/
abbrev LC (p : Pos) : Nat × Nat := (p.line, p.col)
def tLams (ks : List LK) (P : Addr) (ps : List Pos) : TA := fun σ H Q => ∃ ls, TabP H P ls ∧ (ps.map LC).Nodup ∧ (∀ p ∈ ps, LC p ∉ ls) ∧ ∀ vs H1, LamX.ExtN H H1 → TabP H1 P ((ps.map LC).reverse ++ ls) → vs.length = ps.length → (∀ v ∈ vs, IsLam ks H1 v) → Q vs H1
theorem pa_lams_nil : PA X [] (tLams ks P []) := PA.imp pa_nil fun σ H Q ⟨ls, h1, _, _, q⟩ => q [] H (LamX.ExtN.refl H) h1 rfl fun v z => (nomatch z)
theorem pa_lams {e : Expr} {es : List Expr} {κ : LK} {ps : List Pos} (h : PE X e (tLm P pos κ.lf κ.di)) (hk : κ ∈ ks) (hr : PA X es (tLams ks P ps)) (hs : starEach (e :: es) X.env = (false, eval e X.env) :: starEach es X.env := by rfl) :
    PA X (e :: es) (tLams ks P (pos :: ps)) := PA.imp (pa_cons h hr hs) fun σ H Q ⟨ls, h1, h2, h3, q⟩ => by
  rw [List.map_cons, List.nodup_cons] at h2
  refine ⟨ls, h1, h3 pos List.mem_cons_self, fun f dV c H1 e1 t1 l1 => ⟨_, t1, h2.2, fun p hp z => ?_, fun vs H2 e2 t2 hl hv => ?_⟩⟩
  · rcases List.mem_cons.mp z with z | z
    · exact h2.1 (by rw [show LC pos = LC p from z.symm]; exact List.mem_map_of_mem hp)
    · exact h3 p (List.mem_cons_of_mem _ hp) z
  · refine q _ H2 (e1.trans e2) ?_ (by rw [List.length_cons, List.length_cons, hl]) fun v hv' => ?_
    · rw [List.map_cons, List.reverse_cons, List.append_assoc]
      exact t2
    · rcases List.mem_cons.mp hv' with z | z
      · exact ⟨f, κ, dV, c, hk, z, l1.ext e2⟩
      · exact hv v z
/-- a step that leads from one assertion to the next -/
def HS (X : Cx) (s : Stmt) (A B : L2.St → Hp → Prop) : Prop := PS X s fun E σ H => A σ H ∧ ∀ σ' H', B σ' H' → E.nx σ' H'
def tDone (A : L2.St → Hp → Prop) (r : V) : TS := fun E σ H => A σ H ∧ ∀ H', E.rt r H'
theorem pss_hs {s : Stmt} {rest : List Stmt} {A B : L2.St → Hp → Prop} {r : V} (h : HS X s A B) (hr : PSs X rest (tDone B r)) : PSs X (s :: rest) (tDone A r) :=
  PSs.imp (pss_cons h hr) fun E σ H ⟨a, t⟩ => ⟨a, fun σ' H' b => ⟨b, t⟩⟩
/-- the names' state in which the name i holds a list of n lambdas; the places ls are in the table -/
def Works (ks : List LK) (P : Addr) (PZ : L2.St → Prop) (PH : Hp → Prop) (i n : Nat) (ls : List (Nat × Nat)) (σ : L2.St) (H : Hp) : Prop :=
  TabP H P ls ∧ PZ σ ∧ PH H ∧ ∃ a vs, σ[i]? = some (some (.ref a)) ∧ H a = some (.lst vs) ∧ vs.length = n ∧ ∀ v ∈ vs, IsLam ks H v
variable {PZ : L2.St → Prop} {PH : Hp → Prop} {es : List Expr} {ps : List Pos} {ls : List (Nat × Nat)} {px : Pos}
theorem extN_new {H : Hp} {a : Addr} {o : HO} (h : H a = none) : LamX.ExtN H (upd H a o) := fun b u e _ => by rw [upd_ne (ne_of_none e h)]; exact e
theorem TabP.ext {H H' : Hp} (t : TabP H P ls) (e : ∀ ps, H P = some (.tbl ps) → H' P = some (.tbl ps)) : TabP H' P ls := let ⟨ps, h1, h2, h3⟩ := t; ⟨ps, e _ h1, h2, h3⟩
theorem hs_works0 (nd : X.N.Nodup) (hi : X.N[i]? = some x) (hx : Loc X.env.scope x) (ha : PA X es (tLams ks P ps)) (hp : (ps.map LC).Nodup) (hl : ps.length ≤ 1000) (hZ : ∀ σ v, PZ σ → PZ (σ.set i v)) (hlen : ∀ σ, PZ σ → i < σ.length) (hPH : ∀ H H', PH H → LamX.ExtN H H' → PH H')
    (hs : swapsWith (.List es p2) (some (.Name x px)) pos.line X.env = pure false := by rfl) (hf : X.fn x = true ∨ X.env.scope.names.lookup x = some .local := by first | exact .inl rfl | exact .inr rfl | assumption) :
    HS X (.Assign [.Name x px] (.List es p2) pos) (fun σ H => TabP H P [] ∧ PZ σ ∧ PH H) (Works ks P PZ PH i ps.length (ps.map LC).reverse) :=
  PS.imp (ps_set nd hi hx (pe_lst ha) hs hf) fun E σ H ⟨⟨t, z, ph⟩, k⟩ => by
    refine ⟨[], t, hp, fun p _ m => (nomatch m), fun vs H1 e1 t1 l1 v1 => ⟨by rw [l1]; exact Nat.le_trans hl (line5 (by decide)), fun a ha' => k _ _ ?_⟩⟩
    rw [List.append_nil] at t1
    exact ⟨t1.ext fun ps h => by rw [upd_ne (ne_of_none h ha')]; exact h, hZ _ _ z, hPH _ _ ph (e1.trans (extN_new ha')), a, vs, by rw [List.getElem?_set_self (hlen σ z)], upd_same, l1, fun v hv => (v1 v hv).ext (extN_new ha')⟩
/-- works = works + [..] -/
theorem hs_works {pw pb : Pos} (nd : X.N.Nodup) (hi : X.N[i]? = some x) (hx : Loc X.env.scope x) (ha : PA X es (tLams ks P ps)) (hp : (ps.map LC).Nodup) (hd : ∀ p ∈ ps, LC p ∉ ls) (hl : n + ps.length ≤ 1000) (hZ : ∀ σ v, PZ σ → PZ (σ.set i v)) (hlen : ∀ σ, PZ σ → i < σ.length) (hPH : ∀ H H', PH H → LamX.ExtN H H' → PH H')
    (hs : swapsWith (.BinOp (.Name x pw) .Add (.List es p2) pb) (some (.Name x px)) pos.line X.env = pure false := by rfl) (hf : X.fn x = true ∨ X.env.scope.names.lookup x = some .local := by first | exact .inl rfl | exact .inr rfl | assumption)
    (hq : (x == ("__debug__" : Str)) = false := by decide) (hcd : (x == ("__classdict__" : Str)) = false := by decide) :
    HS X (.Assign [.Name x px] (.BinOp (.Name x pw) .Add (.List es p2) pb) pos) (Works ks P PZ PH i n ls) (Works ks P PZ PH i (n + ps.length) ((ps.map LC).reverse ++ ls)) :=
  PS.imp (ps_set nd hi hx (pe_op op_cat (pe_var hi (hx.elim .inl fun h => .inr (.inl h)) hq hcd) (pe_lst ha)) hs hf) fun E σ H ⟨⟨t, z, ph, a, us, g1, g2, g3, g4⟩, k⟩ => by
    refine ⟨_, g1, ls, t, hp, hd, fun vs H1 e1 t1 l1 v1 => ⟨by rw [l1]; exact Nat.le_trans (Nat.le_trans (Nat.le_add_left _ _) hl) (line5 (by decide)), fun b hb => ?_⟩⟩
    have g5 : H1 a = some (.lst us) := e1 _ _ g2 fun ps z => nomatch z
    refine ⟨a, b, us, vs, rfl, rfl, by rw [upd_ne (ne_of_none g5 hb)]; exact g5, upd_same, by rw [g3, l1]; exact Nat.le_trans hl (line5 (by decide)), fun q hq => k _ _ ?_⟩
    have e2 := (extN_new (o := .lst vs) hb).trans (extN_new (o := .lst (us ++ vs)) hq)
    refine ⟨t1.ext fun ps h => ?_, hZ _ _ z, hPH _ _ ph (e1.trans e2), q, us ++ vs, by rw [List.getElem?_set_self (hlen σ z)], upd_same, by rw [List.length_append, g3, l1], fun v hv => ?_⟩
    · have h2 : upd H1 b (.lst vs) P = some (.tbl ps) := by rw [upd_ne (ne_of_none h hb)]; exact h
      rw [upd_ne (ne_of_none h2 hq)]
      exact h2
    · rcases List.mem_append.mp hv with m | m
      · exact ((g4 v m).ext e1).ext e2
      · exact (v1 v m).ext e2
end
end Dn

/-! Each of a list's lambdas handed to a def; the answers compared -/
namespace Dn
open PySem PySem.Spec PyProof.Rows L2
section
variable {X : Cx} {G : Gx} {W : WX} {k j j' iw iy n : Nat} {ks : List LK} {e : Exn} {fg P : Addr} {x y wn : Str} {p p2 pc pt pw pos pos2 pos3 : Pos} {ex : Nat → Value} {PZ : L2.St → Prop} {PH : Hp → Prop} {ls : List (Nat × Nat)} {scope : Scope} {own : List (Str × Nat)}
/-- where the names lie that the lambdas have caught -/
structure CapK (X : Cx) (PZ : L2.St → Prop) (κ : LK) : Prop where
  cap : ∀ dV c, ∃ js, (X.Ok → NdefX.Caps X (κ.lf dV c).cl κ.fr js) ∧ ∀ σ, PZ σ → js.map (NdefX.slotAt σ) = κ.vs.map some
  own : ∀ dV c y a, (κ.lf dV c).cl.lookup y = some a → X.fn y = true
theorem CapK.cells {κ : LK} (C : CapK X PZ κ) {pins : List (Addr × Obj)} {σ : L2.St} {H : Hp} {s : Shared} (I : L2.Inv X pins σ H s) (z : PZ σ) (dV : Value) (c : Addr) :
    NdefX.CellsAt (κ.lf dV c).cl κ.fr (κ.vs.map some) s.heap H ∧ ∀ y a, (κ.lf dV c).cl.lookup y = some a → a ∉ frs X.stack ∧ X.env.cells.lookup y = some a := by
  obtain ⟨js, h1, h2⟩ := C.cap dV c
  have cp := h1 I.ok
  refine ⟨by rw [← h2 σ z]; exact NdefX.cells_of I cp, fun y a h => ?_⟩
  have ha := cp.sub y a h
  have nl : a ≠ X.env.locals := I.cne y a ha
  have nfs : a ∉ X.fs := fun m => by
    obtain ⟨_, o, ho, _⟩ := I.ok.funs.mem m
    exact Nat.lt_irrefl _ (Nat.lt_of_lt_of_le (Heap.lt_size ho) (I.ok.cab y a (C.own dV c y a h) ha))
  refine ⟨fun m => ?_, ha⟩
  rcases I.ok.stk with q | ⟨q, q2⟩
  · exact nfs (by rw [q] at m; exact m)
  · rw [q] at m
    unfold frs at m
    rw [List.filterMap_cons, q2] at m
    rcases List.mem_cons.mp m with r | r
    · exact nl r
    · exact nfs r
theorem yesIf {σ : L2.St} {H : Hp} {A B : Hp → Prop} (h : A H) : tYes σ H fun b H3 => if b = true then A H3 else B H3 := by
  show if true = true then A H else B H
  exact iteT h
theorem pe_errlist (c : Kx true X G W k) (hj : j' ≤ k) (er : ErrRun X.prog X.w X.K X.mg X.base ex j j' fg e (.bl true)) (hm : X.mg x = some (.ref fg)) (hkp : PySem.W.keepIn X.K (.ref fg) = true)
    (hl : ∀ κ ∈ ks, ∀ dV c, LRun X.prog X.w X.K X.mg X.base ex j (κ.lf dV c) κ.di κ.fr κ.ds e) (hc : ∀ κ ∈ ks, CapK X PZ κ) (hdat : ∀ H, PH H → ∀ κ ∈ ks, ∃ F, Same F H ∧ RpA X.K F κ.vs κ.ds) (hPH : ∀ H H', PH H → Same H H' → PH H')
    (hw : X.N[iw]? = some wn) (hvw : Vis X.env.scope wn) (ok : BlkOk X.N X.env.scope scope own) (hown : own.map (·.2) = [iy]) (hy : X.N[iy]? = some y) (hylt : ∀ σ, PZ σ → iy < σ.length)
    (hg : ∀ (s : Shared) (H : Hp) (C : Addr) (cl : List (Str × Addr)) (fp : List Addr), PG (X.blk s H scope (compEnvC scope cl C X.env) fp) (.Name y pt) (gName iy))
    (hvy : ∀ (C : Addr) (cl : List (Str × Addr)), Vis (compEnvC scope cl C X.env).scope y) (hgx : ∀ (s : Shared) (H : Hp) (C : Addr) (cl : List (Str × Addr)) (fp : List Addr), Gl (X.blk s H scope (compEnvC scope cl C X.env) fp) x) (hn : n ≤ 1000)
    (hdb : (x == ("__debug__" : Str)) = false := by decide) (hd : (y == ("__debug__" : Str)) = false := by decide) (hcd : (y == ("__classdict__" : Str)) = false := by decide) (hdw : (wn == ("__debug__" : Str)) = false := by decide) (hcw : (wn == ("__classdict__" : Str)) = false := by decide)
    (hs : ∀ v, foldedSetIterable (.Name wn pw) X.env v = pure v := by intro _; rfl) :
    PE X (.ListComp (.Call (.Name x p) [.Name y p2] [] pc) [⟨.Name y pt, .Name wn pw, [], 0⟩] scope pos) (fun σ H Q => Works ks P PZ PH iw n ls σ H ∧ ∀ D H', H' D = some (.lst (List.replicate n (V.bl true))) → Q (.ref D) H') := by
  refine PE.imp (pe_lcZ (te := fun σ H Q => ∃ f κ dV c, κ ∈ ks ∧ σ[iy]? = some (some (.ref f)) ∧ LamAt H f (κ.lf dV c) κ.di ∧ (∃ F, Same F H ∧ RpA X.K F κ.vs κ.ds ∧ ∀ F' H' v, Ext F H F' H' → Rp X.K F' v (.bl true) → Q v H')) (PZ := PZ) (Z := fun s H fp => ∀ κ ∈ ks, ∀ dV c, NdefX.CellsAt (κ.lf dV c).cl κ.fr (κ.vs.map some) s.heap H ∧ ∀ y a, (κ.lf dV c).cl.lookup y = some a → a ∉ frs X.stack ∧ a ∉ fp) (c.calm rfl) c.nd (pi_seq (pe_var hw hvw hdw hcw)) ok
    (fun pins σ s H fp I z fk κ hκ dV cc => ?_) hg (fun s H C cl fp z => pe_errcall (ks := ks) (c.blk s H scope _ fp) hj er hm hkp hy (hvy C cl) hl (fun κ hκ dV cc => ?_) (hgx s H C cl fp) hdb hd hcd) hs) fun σ H Q ⟨⟨t, z, ph, a, us, g1, g2, g3, g4⟩, q⟩ => ⟨z, ?_⟩
  · obtain ⟨h1, h2⟩ := (hc κ hκ).cells I z dV cc
    exact ⟨h1, fun y a h => ⟨(h2 y a h).1, fun m => (fk a m).2.2.2.2.1 y a (h2 y a h).2 rfl⟩⟩
  · obtain ⟨h1, h2⟩ := z κ hκ dV cc
    exact ⟨⟨h1, fun y a h => (h2 y a h).1, fun y a h => (h2 y a h).2⟩, fun y a h => (h2 y a h).1⟩
  · refine ⟨_, g1, a, rfl, .inl ⟨⟨us, .of g2⟩, fun Dl hD => ?_⟩⟩
    rw [hown]
    have hne : a ≠ Dl := ne_of_none g2 hD
    refine ⟨fun i m H' => m = n - i ∧ i ≤ n ∧ Same H H' ∧ H' Dl = some (.lst (List.replicate i (V.bl true))), ⟨n, by omega, Nat.zero_le _, same_upd hD, upd_same⟩, ?_⟩
    rintro i m H2 ⟨rfl, hi, s2, hD2⟩
    have ga : H2 a = some (.lst us) := s2 _ _ g2
    by_cases hlt : i < n
    · have hlu : i < us.length := by rw [g3]; exact hlt
      refine .inr ⟨⟨us, us[i], .of ga, List.getElem?_eq_getElem hlu⟩, fun H' => Same H H' ∧ H' Dl = some (.lst (List.replicate (i + 1) (V.bl true))), fun H' ⟨h1, h2⟩ => ⟨n - (i + 1), by omega, rfl, by omega, h1, h2⟩, fun v H3 ⟨e3, hv⟩ => ?_⟩
      subst e3
      have ev : us[i]? = some v := hv us (.of ga)
      rw [List.getElem?_eq_getElem hlu] at ev
      have ev := Option.some.inj ev
      obtain ⟨f, κ, dV, cc, hκ, evf, la⟩ := (g4 _ (List.getElem_mem hlu)).same s2
      obtain ⟨F, sF, rF⟩ := hdat H3 (hPH _ _ ph s2) κ hκ
      refine ⟨by show ((wipe σ [iy]).set iy (some v)).set iy none = (wipe σ [iy]); unfold wipe wipe; rw [List.set_set, List.set_set], yesIf ?_⟩
      have il : iy < (wipe σ [iy]).length := by rw [wipe_length]; exact hylt σ z
      refine ⟨f, κ, dV, cc, hκ, by rw [List.getElem?_set_self il, ← ev, evf], la, F, sF, rF, fun F' H' w ex rw' => ?_⟩
      cases rw'
      refine ⟨_, ex.h _ _ hD2, by rw [List.length_replicate]; exact Nat.lt_of_lt_of_le (Nat.lt_of_lt_of_le hlt hn) (line5 (by decide)), ?_, ?_⟩
      · intro b o hb
        have : b ≠ Dl := ne_of_none hb hD
        rw [upd_ne this]
        exact ex.h _ _ (s2 _ _ hb)
      · rw [upd_same, List.replicate_succ']
    · have e0 : i = n := by omega
      subst e0
      exact .inl ⟨⟨us, .of ga, by rw [g3]; exact Nat.le_refl _⟩, q Dl H2 hD2⟩
theorem rpa_yes {K : PySem.W.Frag} {F : Hp} : ∀ n : Nat, RpA K F (List.replicate n (V.bl true)) (List.replicate n (D.bl true))
  | 0 => .nil
  | n + 1 => .cons (.bl true) (rpa_yes n)
/-- return [..] == right -/
theorem es_errret {lc right : Expr} {fb : M D} {ρ' : Sto} (hc : ∀ G : Gx, G.K = X.K → G.ex = ex → Kx true X G W k)
    (hlc : PE X lc (fun σ H Q => Works ks P PZ PH iw n ls σ H ∧ ∀ D H', H' D = some (.lst (List.replicate n (V.bl true))) → Q (.ref D) H')) (hr : ∀ G : Gx, G.K = X.K → G.ex = ex → PE X right (tI G W fb))
    (hfb : fb (List.replicate X.N.length Slot.emp) = some (.ok (.lst (List.replicate n (.bl true))) ρ')) (hu : X.A.units + 64 < cLine) (hm : behindInMarks .Eq right = false) (hn : eqD (.lst (List.replicate n (.bl true))) (.lst (List.replicate n (.bl true))) = some true) :
    PSs X [.Return (some (.Compare lc [.Eq] [right] pos2)) pos3] (tDone (Works ks P PZ PH iw n ls) (.bl true)) := by
  have hr2 : PE X right (fun σ H Q => ∀ H' v, Same H H' → Rp X.K H' v (.lst (List.replicate n (.bl true))) → Q v H') := ⟨fun pins s σ H Q I q => by
    refine (hr ⟨X.K, fun _ => none, H, [], ex⟩ rfl rfl).run pins s σ H Q I ⟨fun _ => none, List.replicate X.N.length Slot.emp, [], ?_, ?_⟩
    · refine ⟨fun _ _ h => (nomatch h), fun _ _ h => (nomatch h), fun a h1 h2 => absurd h2 h1, fun a o _ h => h, fun a h => h, by rw [I.len, List.length_replicate], fun i t h => ?_, fun i j t u hij hi hj ht hu => ?_, fun t ht => (nomatch ht), List.nodup_nil⟩
      · have hi := (List.getElem?_eq_some_iff.mp h).1
        rw [List.getElem?_replicate] at h
        split at h
        · cases h
          rw [List.length_replicate, ← I.len] at hi
          exact ⟨_, List.getElem?_eq_getElem hi, trivial⟩
        · cases h
      · rw [List.getElem?_replicate] at hi
        split at hi
        · cases hi
          cases ht
        · cases hi
    · rw [hfb]
      exact fun F' H' s' R' v rv => q H' v R'.out.h (rv.mono R'.sub)⟩
  refine PSs.imp (pss_one (ps_ret (pe_cmpR (op_eqD hu) hlc hr2 hm))) fun E σ H ⟨w, q⟩ => ⟨w, fun Dl H1 hD H2 v s2 rv => ?_⟩
  have rl : Rp X.K H2 (.ref Dl) (.lst (List.replicate n (.bl true))) := .lst (s2 _ _ hD) (rpa_yes n)
  exact eqD_of H2 H2 _ _ _ _ _ _ (Same.refl _) rl rv hn (q H2)
end
end Dn

/-! A law that hands lambdas to a def at its end -/
namespace Dn
open PySem PySem.Spec PyProof.Rows L2
section
variable {X : Cx} {G : Gx} {W : WX} {Kn : L2.St → Prop} {st : Stmt} {rest : List Stmt} {g h : M Out} {en : Exn} {e : Expr} {pos : Pos}
theorem es_workK (hp : PE X e (fun σ H Q => Kn σ ∧ tI G W (fun ρ => some (.exc en ρ)) σ H Q)) (hs : swapsWith e none pos.line X.env = pure false := by rfl) : PSs X [.Expr e pos] (fun E σ H => Kn σ ∧ tS G W (fun ρ => some (.exc en ρ)) E σ H) :=
  pss_one (PS.imp (ps_expr hp hs) fun E σ H ⟨kn, F, ρ, τ, R, q⟩ => ⟨kn, F, ρ, τ, R, fun F' H' cls dd s R' xr => q F' H' σ cls dd s R' xr⟩)
theorem es_consK (h1 : PS X st (fun E σ H => Kn σ ∧ tS G W g E σ H)) (h2 : PSs X rest (tS G W h)) : PSs X (st :: rest) (fun E σ H => Kn σ ∧ tS G W (seqS g h) E σ H) := PSs.imp (pss_cons h1 h2) fun E σ H ⟨kn, F, ρ, τ, R, q⟩ => by
  refine ⟨kn, F, ρ, τ, R, ?_⟩
  unfold seqS M.bind at q
  match z : g ρ with
  | none => rw [z] at q; exact q
  | some (.exc e ρ') => rw [z] at q; exact q
  | some (.ok .nx ρ') =>
    rw [z] at q
    exact fun F' H' σ' s R' => ⟨F', ρ', τ, R', FinS.mono s q⟩
  | some (.ok (.ret d) ρ') => rw [z] at q; exact q
  | some (.ok (.retN c) ρ') => rw [z] at q; exact q
  | some (.ok .bk ρ') => rw [z] at q; exact q
  | some (.ok .ct ρ') => rw [z] at q; exact q
end
def imm : D → Bool
  | .non => true
  | .bl _ => true
  | .int _ => true
  | .str _ => true
  | _ => false
theorem Rp.imm {K : PySem.W.Frag} {F F' : Hp} {v : V} {d : D} (r : Rp K F v d) (h : Dn.imm d = true) : Rp K F' v d := by
  cases r with
  | non => exact .non
  | bl b => exact .bl b
  | int i => exact .int i
  | str x => exact .str x
  | tup _ _ => cases h
  | lst _ _ => cases h
  | dcT _ _ => cases h
  | dcK _ _ => cases h
  | scr _ => cases h
/-- the law's end, from the state behind its head: the name ib holds a value that ok tells of -/
def tTail (K : PySem.W.Frag) (ib : Nat) (P : Addr) (ok : D → Prop) : TS := fun E σ H => ∃ v d, ok d ∧ σ[ib]? = some (some v) ∧ (∀ F, Rp K F v d) ∧ TabP H P [] ∧ ∀ H', E.rt (.bl true) H'
/-- what the law asks: its script, and that its table is empty -/
def spT (K : PySem.W.Frag) (P : Addr) : Sp := fun vs H Q _ => ∃ (a : Addr) (ns : List Int), vs = [.ref a] ∧ SqL K H a (ns.map V.int) ∧ ns.length ≤ 63 ∧ H P = some (.tbl #[]) ∧ ∀ H', Q (.bl true) H'
def PZv (ib n : Nat) (v : V) (σ : L2.St) : Prop := σ[ib]? = some (some v) ∧ σ.length = n
theorem PZv.set {ib n i : Nat} {v : V} {σ : L2.St} (h : PZv ib n v σ) (ne : i ≠ ib) (u : Option V) : PZv ib n v (σ.set i u) := ⟨by rw [List.getElem?_set_ne ne]; exact h.1, by rw [List.length_set]; exact h.2⟩
theorem pss_tail {X : Cx} {l : List Stmt} {ib n : Nat} {P : Addr} {ok : D → Prop} {K : PySem.W.Frag} (hn : X.N.length = n) (h : ∀ v d, ok d → (∀ F, Rp K F v d) → PSs X l (tDone (fun σ H => TabP H P [] ∧ PZv ib n v σ ∧ True) (.bl true))) : PSs X l (tTail K ib P ok) :=
  ⟨fun pins s σ H E I ⟨v, d, h1, h2, h3, h5, h6⟩ => (h v d h1 h3).run pins s σ H E I ⟨⟨h5, ⟨h2, I.len.trans hn⟩, trivial⟩, h6⟩⟩
theorem fn_T {P : Program} {w : World} {K : PySem.W.Frag} {mg : Str → Option Value} {base : Heap} {ex : Nat → Value} {st : Stmt} {N : List Str} {k ib : Nat} {f Pt : Addr} {oc kV doc pm cdv ct : Value} {an od : Option Addr} {osl : Array (Option Value)} {head : M Out} {ok : D → Prop} {x : Str} {q : Str}
    (lk : K.lookup f = some ⟨oc, od, .func (PySem.W.fnOf x q (defArgs st) (defBody st) (defScope st) .none kV doc pm an cdv ct), osl⟩) (hcd : PySem.W.codeIn K cdv q = true) (nP : K.lookup Pt = none) {sn : Str} (S : FnScope N [sn] (defScope st)) (hN : 1 ≤ N.length)
    (math : ∀ ns : List Int, ns.length ≤ 63 → ∃ ρ1 d, head (start0 N.length [.scr ns]) = some (.ok .nx ρ1) ∧ ρ1[ib]? = some (.val d) ∧ ok d ∧ imm d = true)
    (hb : ∀ (A : Around) (outer : List Env) (s : Shared) (H : Hp) (E : XK), (∀ G : Gx, G.K = K → G.ex = ex → Kx true (cxB true (L2N.CX P w) P w K mg base N q (defScope st) f cdv A outer s H E []) G (WD E) k) → ∀ G : Gx, G.K = K → G.ex = ex →
      PSs (cxB true (L2N.CX P w) P w K mg base N q (defScope st) f cdv A outer s H E []) (defBody st) (tThen G head (tTail K ib Pt ok))) :
    FnOk P w K mg base (L2N.CX P w) (k + 1) f (PySem.W.fnOf x q (defArgs st) (defBody st) (defScope st) .none kV doc pm an cdv ct) [sn] (spT K Pt) := by
  refine fn_of lk hcd S (fun vs H Q E ⟨a, ns, h, _⟩ => by rw [h]; rfl) fun A outer s H vs Q E hr ⟨a, ns, h1, h2, h3, h4, h5⟩ => ?_
  subst h1
  obtain ⟨ρ1, d, e1, e2, e3, e4⟩ := math ns h3
  refine ⟨_, hb A outer s H E (fun G hG _ => kx_def (F := H) S hG (fun _ => hr) fun y => nomatch y) ⟨K, fun b => if b = Pt then none else H b, H, [], ex⟩ rfl rfl, ?_⟩
  have sF : Same (fun b => if b = Pt then none else H b) H := fun b o e => by
    by_cases hb : b = Pt
    · have e := (if_pos hb).symm.trans e
      cases e
    · exact (if_neg hb).symm.trans e
  have ne : a ≠ Pt := fun z => by
    rw [z] at h2
    rcases h2 with (h | ⟨o, h⟩) | ⟨_, _, _, h, _⟩
    · rw [h4] at h; cases h
    · rw [h4] at h; cases h
    · rw [nP] at h; cases h
  have rs : Rp K (fun b => if b = Pt then none else H b) (.ref a) (.scr ns) := .scr (by
    rcases h2 with (h | ⟨o, h⟩) | h
    · exact .inl (.inl ((if_neg ne).trans h))
    · exact .inl (.inr ⟨o, (if_neg ne).trans h⟩)
    · exact .inr h)
  refine ⟨_, _, [], ρ1, start_rep (ps := [sn]) sF (.one rs) rfl hN, e1, fun F' H' σ' s' R' => ?_⟩
  obtain ⟨v, g1, g2⟩ := R'.val e2
  exact ⟨v, d, e3, g1, fun F => g2.imm e4, TabP.nil (R'.keep Pt _ (fun z => nomatch z) h4), h5⟩
end Dn

/-! try: work() / except C as e: return isinstance(e, ValueError) -/
namespace Dn
open PySem PySem.Spec PyProof.Rows L2
/-- the class of number n is C; how isinstance answers for its instances -/
structure IsAt (K : PySem.W.Frag) (ex : Nat → Value) (n : Nat) (T : Value) (b : Bool) : Prop where
  ex : ∃ C, ex n = .ref C ∧ ExcC K C ∧ PySem.W.kitOne K (.ref C) T = some b
/-- isinstance(e, c), e the error that the suite holds, with or without fields -/
def rIsX (K : PySem.W.Frag) (D a : Addr) (d : Option Addr) : List V → Hp → VK → Prop := fun xs H Q => ∃ (c : V) (cv : Value) (b : Bool), xs = [.ref a, c] ∧ (∀ u, RelV c u → u = cv) ∧ PySem.W.kitOne K (.ref D) cv = some b ∧ (d = none ∨ ∃ dx fs, d = some dx ∧ H dx = some (.xd fs)) ∧ Q (.bl b) H
theorem call_isX {X : Cx} {a D : Addr} {oe : Obj} {pn : List (Addr × Obj)} {d : Option Addr} (C : ExcC X.K D) (hz : Zc (.ref D) d oe) (hf : ∃ vs, oe.data = .fields vs) : CallR (X.suite a ((a, oe) :: pn)) (.builtin "isinstance") (rIsX X.K D a d) := by
  rintro pins s σ H xs us Q I r ⟨c, cv, b, rfl, hcv, e, hd, q⟩
  cases r with
  | cons rx rr =>
    cases rr with
    | cons rt rr =>
      cases rr
      cases rx
      have ec := hcv _ rt
      subst ec
      obtain ⟨hget, _⟩ := I.pin (a, oe) (List.mem_append_left _ List.mem_cons_self)
      obtain ⟨vs, hv⟩ := hf
      obtain ⟨cd, hcd, _⟩ := PySem.W.any_some C.hd
      have J : ∃ od, PySem.W.InstAt s.heap a oe D od := by
        obtain ⟨z1, z2⟩ := hz
        have nc : PySem.W.notCls oe = true := by unfold PySem.W.notCls; rw [hv]
        rcases hd with hd | ⟨dx, fs, hd, hx⟩
        · exact ⟨none, hget, z1, nc, by rw [z2, hd]; trivial⟩
        · obtain ⟨mA, ⟨od, es, ep, g1, _⟩, _⟩ := I.hok dx _ hx
          exact ⟨some od, hget, z1, nc, by rw [z2, hd]; exact g1⟩
      obtain ⟨od, J⟩ := J
      exact PySem.W.kia_one (PySem.W.kitx_exc (by rw [hcd]; rfl) C.hg C.hk C.hs C.ha C.hn C.ht C.hm) I.kIn J e (fun z => nomatch z) fun tk => ⟨.bl b, H, I.kept (t' := tk) fun _ _ z => z, rfl, q⟩
section
variable {X : Cx} {G : Gx} {W : WX} {k i m : Nat} {Kn : L2.St → Prop} {ex : Nat → Value} {e : Exn} {x y : Str} {body rest : List Stmt} {pos pos' p q1 q2 q3 q4 q5 : Pos}
theorem pss_bad (c : Kx true X G W k) (D : ExcAt X.K X.mg ex x m) (IA : IsAt X.K ex e.c (.type "ValueError") true) (hex : G.ex = ex) (hit : ∀ C, ex m = .ref C → PySem.W.exmOne X.K (ex e.c) (.ref C) = some true)
    (hb : ∀ (pn : List (Addr × Obj)) (xe : Value → Shared → Prop) (W' : WX), Kx true (X.tr pn xe) G W' k → PSs (X.tr pn xe) body (fun E σ H => Kn σ ∧ tS G W' (fun ρ => some (.exc e ρ)) E σ H))
    (hmi : X.mg "isinstance" = none) (hmv : X.mg "ValueError" = none) (hgi : ∀ a pn, Gl (X.suite a pn) "isinstance") (hgv : ∀ a pn, Gl (X.suite a pn) "ValueError") (hvy : ∀ a pn, Vis (X.suite a pn).env.scope y)
    (hs1 : ∀ a pn, starEach [.Name y q2, .Name "ValueError" q3] (X.suite a pn).env = (false, eval (.Name y q2) (X.suite a pn).env) :: starEach [.Name "ValueError" q3] (X.suite a pn).env) (hs2 : ∀ a pn, starEach [.Name "ValueError" q3] (X.suite a pn).env = (false, eval (.Name "ValueError" q3) (X.suite a pn).env) :: starEach [] (X.suite a pn).env)
    (hs : X.stack = X.env :: X.outer := by rfl) (hf : X.env.frame = some X.env.locals := by rfl) (hi : X.N[i]? = some y := by rfl) (hln : X.env.kindOf y = some .local := by rfl) (hg : Gl X x := by rfl) (hdb : (x == ("__debug__" : Str)) = false := by decide)
    (hd : (y == ("__debug__" : Str)) = false := by decide) (hcd : (y == ("__classdict__" : Str)) = false := by decide) :
    PSs X (.Try body [.ExceptHandler (some (.Name x p)) (some y) [.Return (some (.Call (.Name "isinstance" q1) [.Name y q2, .Name "ValueError" q3] [] q4)) q5] pos'] [] [] pos :: rest)
      (fun E σ H => Kn σ ∧ tS G W (fun ρ => some (.ok (.ret (.bl true)) ρ)) E σ H) := by
  obtain ⟨Cx', h1, h2, h3, h4, h5, h6, _⟩ := D.ex
  obtain ⟨C, hC, EC, kv⟩ := IA.ex
  have never : PSs X rest (fun _ _ _ => False) := ⟨fun pins s σ H E I h => h.elim⟩
  have suite : ∀ (a : Addr) (oe : Obj) (cls : Value) (d : Option Addr) (pn : List (Addr × Obj)), L2N.Zn cls d oe → (∃ vs, oe.data = .fields vs) → PSs (X.suite a ((a, oe) :: pn)) [.Return (some (.Call (.Name "isinstance" q1) [.Name y q2, .Name "ValueError" q3] [] q4)) q5]
      (fun E σ H => cls = .ref C ∧ (d = none ∨ ∃ dx fs, d = some dx ∧ H dx = some (.xd fs)) ∧ σ[i]? = some (some (.ref a)) ∧ E.rt (.bl true) H) := fun a oe cls d pn z hv => ⟨fun pins s σ H E I ⟨e1, e2, e3, e4⟩ => by
    subst e1
    exact (pss_one (ps_ret (pe_callB (call_isX EC z.zc hv) (hgi _ _) hmi PyProof.Rows.boot_isinstance (pa_cons (pe_var (i := i) hi (hvy _ _) hd hcd) (pa_cons (pe_bltn (v := .ty "ValueError") (hgv _ _) hmv (by decide +kernel) rfl (by decide) (by decide)) pa_nil (hs2 _ _)) (hs1 _ _)) (by decide) (by decide) (hs1 _ _) (by rw [hs2]; rfl)))).run pins s σ H E I
      ⟨_, e3, _, .type "ValueError", true, rfl, fun u r => r, kv, e2, e4⟩⟩
  refine ⟨fun pins s σ H E I ⟨kn, F, ρ, τ, R, q⟩ => (pss_cons (L2N.ps_try_as (tb := fun W' E σ H => Kn σ ∧ tS G W' (fun ρ => some (.exc e ρ)) E σ H) (ts := fun a cls d E σ H => cls = .ref C ∧ (d = none ∨ ∃ dx fs, d = some dx ∧ H dx = some (.xd fs)) ∧ σ[i]? = some (some (.ref a)) ∧ E.rt (.bl true) H) hs hf c.nd hi hln ⟨hg, hdb, .inl h1⟩ c.tk
    (fun W' pn xe tk po => hb pn xe W' ⟨c.hK, tk, c.un, c.nd, c.hr, c.calm, fun z => (nomatch z)⟩) (fun a oe cls d pn z hv => suite a oe cls d pn z hv)) never).run pins s σ H E I ⟨kn, F, ρ, τ, R, ?_⟩⟩
  intro F' H' σ' cls dd s' R' xr
  have hc : cls = .ref C := by rw [xr.1, hex, hC]
  have hdd : dd = none ∨ ∃ dx fs, dd = some dx ∧ H' dx = some (.xd fs) := by
    rcases xr.2 with ⟨_, z⟩ | ⟨a, fs, z1, z2, _⟩
    · exact .inl z
    · exact .inr ⟨a, fs, z1, z2⟩
  have il : i < σ'.length := by
    rw [R'.len, ← R.len, I.len]
    exact (List.getElem?_eq_some_iff.mp hi).1
  exact ⟨true, by rw [hc, ← hC]; exact hit _ h2, fun _ a na => ⟨hc, hdd, by rw [List.getElem?_set_self il], q F' H' σ' (.bl true) s' R' (.bl true)⟩, fun z => (nomatch z)⟩
end
/-! max of a list -/
def maxI (ns : List Int) : Option Int := ns.find? fun m => ns.all fun y => decide (y ≤ m)
theorem maxI_mem {ns : List Int} {m : Int} (h : maxI ns = some m) : m ∈ ns ∧ ∀ y ∈ ns, y ≤ m := by
  have h2 : (ns.all fun y => decide (y ≤ m)) = true := List.find?_some (p := fun m => ns.all fun y => decide (y ≤ m)) h
  exact ⟨List.mem_of_find?_eq_some h, fun y hy => of_decide_eq_true (List.all_eq_true.mp h2 y hy)⟩
theorem maxI_eq {ns : List Int} {m : Int} (h1 : m ∈ ns) (h2 : ∀ y ∈ ns, y ≤ m) : maxI ns = some m := by
  cases e : maxI ns with
  | none =>
    have := List.find?_eq_none.mp e m h1
    exact absurd (List.all_eq_true.mpr fun y hy => decide_eq_true (h2 y hy)) this
  | some m' =>
    obtain ⟨g1, g2⟩ := maxI_mem e
    rw [Int.le_antisymm (h2 m' g1) (g2 m h1)]
theorem maxD_of {K : PySem.W.Frag} : CallS K (rMax K) (onInts fun ns => (maxI ns).map D.int) := fun H vs ds d Q rvs e q => by
  unfold onInts at e
  split at e
  · obtain ⟨ns, h1, h2⟩ := Option.bind_eq_some_iff.mp e
    obtain ⟨m, h3, h4⟩ := Option.map_eq_some_iff.mp h2
    subst h4
    have e1 := intsOf_eq h1
    subst e1
    cases rvs with
    | cons r1 r2 =>
      cases r2
      cases r1 with
      | lst h r =>
        have e2 := r.of_ints
        subst e2
        obtain ⟨g1, g2⟩ := maxI_mem h3
        exact ⟨_, ns, rfl, .of h, List.length_pos_of_mem g1, fun m' k1 k2 => by
          rw [Int.le_antisymm (g2 m' k1) (k2 m g1)]
          exact q _ fun _ => .int _⟩
  · cases e
section
variable {X : Cx} {G : Gx} {W : WX} {k : Nat} {e : Expr} {f : M D} {p pos : Pos}
theorem ei_maxL (c : Kx true X G W k) (hm : X.mg "max" = none) (ha : PE X e (tI G W f)) (hg : Gl X "max" := by rfl) (he : starEach [e] X.env = (false, eval e X.env) :: starEach [] X.env := by rfl) : PE X (.Call (.Name "max" p) [e] [] pos) (tI G W (M.bind (oneM f) fun ds => M.lift (onInts (fun ns => (maxI ns).map D.int) ds))) :=
  ei_callS c (cr_max (c.calm rfl)) maxD_of hm PyProof.Rows.boot_max (ea_one (PE.now ha) he) hg (by decide) (by decide) he rfl
end
/-! looks at the texts -/
def noE : Expr := .Constant .none 0 ⟨0, 0, 0, 0⟩
def lamEs : Stmt → List Expr
  | .Assign _ (.List es _) _ => es
  | .Assign _ (.BinOp _ _ (.List es _) _) _ => es
  | _ => []
def lamAt (body : List Stmt) (i j : Nat) : Expr := (lamEs (body[i]?.getD (.Pass ⟨0, 0, 0, 0⟩)))[j]?.getD noE
def lamA : Expr → Arguments
  | .Lambda a _ _ _ => a
  | _ => defArgs (.Pass ⟨0, 0, 0, 0⟩)
def lamB : Expr → Expr
  | .Lambda _ b _ _ => b
  | _ => noE
def lamS : Expr → Scope
  | .Lambda _ _ s _ => s
  | _ => defScope (.Pass ⟨0, 0, 0, 0⟩)
section
variable {X : Cx} {ib n : Nat} {v : V} {d : D} {x : Str} {params : Arguments} {body : Expr} {scope : Scope} {di : Option Int} {PZ : L2.St → Prop}
theorem capk_one (free : ∀ y ∈ scope.names, y.2 = .free → X.env.scope.names.lookup y.1 = some .cell ∨ X.env.scope.names.lookup y.1 = some .free) (fr : ∀ y ∈ [x], (y, NameKind.free) ∈ scope.names) (hN : X.N[ib]? = some x) (hf : ∀ y, X.fn y = true) :
    CapK X (PZv ib n v) ⟨lamL X params body scope, di, [x], [v], [d]⟩ :=
  ⟨fun dV c => ⟨[ib], fun ok => NdefX.Caps.made ok free fr (by show [X.N[ib]?] = [some x]; rw [hN]), fun σ z => by show [NdefX.slotAt σ ib] = [some v]; rw [NdefX.slotAt_of z.1]⟩, fun dV c y a _ => hf y⟩
theorem capk_nil (free : ∀ y ∈ scope.names, y.2 = .free → X.env.scope.names.lookup y.1 = some .cell ∨ X.env.scope.names.lookup y.1 = some .free) (hf : ∀ y, X.fn y = true) : CapK X PZ ⟨lamL X params body scope, di, [], [], []⟩ :=
  ⟨fun dV c => ⟨[], fun ok => NdefX.Caps.made ok free (fun y z => nomatch z) rfl, fun σ z => rfl⟩, fun dV c y a _ => hf y⟩
end
theorem ex_is {K : PySem.W.Frag} {h : Heap} {mg : Str → Option Value} {ex : Nat → Value} {x : Str} {n : Nat} {C : Addr} (X : K.In h) (G : h.Ns mainGlobals mg) (a : PySem.W.nsIn K mainGlobals x = some (some (.ref C))) (hex : ex n = (mg x).getD .none) : ex n = .ref C := by
  rw [hex, PySem.W.mg_of X G a]
  rfl
theorem is_at {K : PySem.W.Frag} {h : Heap} {mg : Str → Option Value} {ex : Nat → Value} {x : Str} {n : Nat} {C : Addr} {T : Value} {b : Bool} (X : K.In h) (G : h.Ns mainGlobals mg) (hex : ex n = (mg x).getD .none) (a : PySem.W.nsIn K mainGlobals x = some (some (.ref C)))
    (h1 : PySem.W.findIn K (.ref C) "__getattribute__" = some (some (.builtin "BaseException.__getattribute__"))) (h2 : PySem.W.findIn K (.ref C) "__getattr__" = some none) (h3 : PySem.W.subIn K (.ref C) (.type "BaseException") = some true) (h4 : PySem.W.hasDictIn K C = true)
    (h5 : PySem.W.findIn K (.ref C) "__class__" = some (some (.builtin "object.__class__"))) (h6 : PySem.W.specialIn K (.builtin "object.__class__") "__get__" = some (some (.builtin "getset_descriptor.__get__"))) (h7 : PySem.W.takesIn K (.builtin "object.__class__") = some true) (h8 : PySem.W.mroIn K C (.type "object") = some true)
    (h9 : PySem.W.kitOne K (.ref C) T = some b) : IsAt K ex n T b := ⟨C, ex_is X G a hex, ⟨h1, h2, h3, h4, h5, h6, h7, h8⟩, h9⟩
theorem all2 {α : Type} {a : α} {l : List α} {p : α → Prop} (h : p a) (t : ∀ x ∈ l, p x) : ∀ x ∈ a :: l, p x := fun x m => (List.mem_cons.mp m).elim (fun e => e ▸ h) (t x)
theorem all0 {α : Type} {p : α → Prop} : ∀ x ∈ ([] : List α), p x := fun x m => (nomatch m)
end Dn

namespace K04
open PySem PySem.Spec PyProof.Rows L2 Dn
def g_is_number : M Out := retM (andD (isiM .int (rd 0)) (andD (notD (isiM .bool (rd 0))) (chainD (rd 1) (rd 0) (rd 2) leD leD)))
def d_is_number : Den D := runD 3 g_is_number
def g_is_pair : M Out := seqS (ifM (orM (notM (testB (isiM .tuple (rd 0)))) (bin2 neD (M.bind (oneM (pk 0)) fun ds => M.lift (lenD ds)) (M.pure (.int 2)))) (retM (M.pure (.bl false))) (M.pure .nx)) (retM (andD (callM 3 d_is_number (consM (ixAt 0 (M.pure (.int 0))) (consM (M.pure (.int 0)) (consM (bin2 subD (rd 1) (M.pure (.int 1))) (M.pure []))))) (callM 3 d_is_number (consM (ixAt 0 (M.pure (.int 1))) (consM (M.pure (.int 0)) (consM (bin2 subD (rd 2) (M.pure (.int 1))) (M.pure [])))))))
def d_is_pair : Den D := runD 3 g_is_pair
def g_are_sides : M Out := seqS (ifM (orM (notM (testB (callM 3 d_is_number (consM (rd 0) (consM (M.pure (.int 1)) (consM (M.pure (.int 12)) (M.pure []))))))) (notM (testB (callM 3 d_is_number (consM (rd 1) (consM (M.pure (.int 1)) (consM (M.pure (.int 12)) (M.pure [])))))))) (retM (M.pure (.bl false))) (M.pure .nx)) (retM (orD (M.map (bin2 gtD (rd 0) (M.pure (.int 1))) D.bl) (M.map (bin2 gtD (rd 1) (M.pure (.int 1))) D.bl)))
def d_are_sides : Den D := runD 2 g_are_sides
def g_wrong_part : M Out := seqS (ifM (orM (notM (testB (isiM .tuple (rd 0)))) (bin2 neD (M.bind (oneM (pk 0)) fun ds => M.lift (lenD ds)) (M.pure (.int 4)))) (retM (M.pure (.str "whole"))) (M.pure .nx)) (seqS (tgtM (.tp [1, 2, 3, 4]) (rd 0)) (seqS (ifM (notM (testB (callM 2 d_are_sides (consM (rd 1) (consM (rd 2) (M.pure [])))))) (retM (M.pure (.str "sides"))) (M.pure .nx)) (seqS (ifM (orM (notM (testB (callM 3 d_is_pair (consM (rd 3) (consM (rd 1) (consM (rd 2) (M.pure []))))))) (notM (testB (callM 3 d_is_pair (consM (rd 4) (consM (rd 1) (consM (rd 2) (M.pure [])))))))) (retM (M.pure (.str "steps"))) (M.pure .nx)) (seqS (ifM (bin2 eqD (rd 3) (pk 4)) (retM (M.pure (.str "steps"))) (M.pure .nx)) (retM (M.pure .non))))))
def d_wrong_part : Den D := runD 5 g_wrong_part
def g_check_town : M Out := seqS (setM 1 (callM 1 d_wrong_part (consM (rd 0) (M.pure [])))) (ifM (bin2 isntD (rd 1) (M.pure .non)) (neverM) (M.pure .nx))
def d_check_town : Den D := runD 2 g_check_town
def g_check_crossing : M Out := ifM (notM (testB (callM 3 d_is_pair (consM (rd 1) (consM (ixAt 0 (M.pure (.int 0))) (consM (ixAt 0 (M.pure (.int 1))) (M.pure []))))))) (raiseM 2) (M.pure .nx)
def d_check_crossing : Den D := runD 2 g_check_crossing
def e_crossings_0 : M D := tupM (consM (rd 1) (consM (rd 2) (M.pure [])))
def i_crossings_0 : M (List D) := rngM rng1 (consM (ixAt 0 (M.pure (.int 1))) (M.pure []))
def g_crossings : M Out := retM (M.map (lc2M [1, 2] [2] (.nm 1) (rngM rng1 (consM (ixAt 0 (M.pure (.int 0))) (M.pure []))) (M.pure true) (i_crossings_0) (.nm 2) (M.pure true) (e_crossings_0)) Co.d)
def d_crossings : Den D := runD 3 g_crossings
def g_added : M Out := retM (tupM (consM (bin2 modD (bin2 addD (ixAt 1 (M.pure (.int 0))) (ixAt 2 (M.pure (.int 0)))) (ixAt 0 (M.pure (.int 0)))) (consM (bin2 modD (bin2 addD (ixAt 1 (M.pure (.int 1))) (ixAt 2 (M.pure (.int 1)))) (ixAt 0 (M.pure (.int 1)))) (M.pure []))))
def d_added : Den D := runD 3 g_added
def g_steps_difference : M Out := seqS (tgtM (.tp [1, 2, 3, 4]) (rd 0)) (retM (tupM (consM (bin2 modD (bin2 subD (ixAt 3 (M.pure (.int 0))) (ixAt 4 (M.pure (.int 0)))) (rd 1)) (consM (bin2 modD (bin2 subD (ixAt 3 (M.pure (.int 1))) (ixAt 4 (M.pure (.int 1)))) (rd 2)) (M.pure [])))))
def d_steps_difference : Den D := runD 5 g_steps_difference
def g_is_town : M Out := retM (M.map (bin2 isD (callM 1 d_wrong_part (consM (rd 0) (M.pure []))) (M.pure .non)) D.bl)
def d_is_town : Den D := runD 1 g_is_town
def g_ends : M Out := seqS (dropM (callM 1 d_check_town (consM (rd 0) (M.pure [])))) (seqS (dropM (callM 2 d_check_crossing (consM (rd 0) (consM (rd 1) (M.pure []))))) (retM (tupM (consM (callM 3 d_added (consM (rd 0) (consM (rd 1) (consM (ixAt 0 (M.pure (.int 2))) (M.pure []))))) (consM (callM 3 d_added (consM (rd 0) (consM (rd 1) (consM (ixAt 0 (M.pure (.int 3))) (M.pure []))))) (M.pure []))))))
def d_ends : Den D := runD 2 g_ends
def g_order : M Out := seqS (dropM (callM 1 d_check_town (consM (rd 0) (M.pure [])))) (seqS (dropM (callM 2 d_check_crossing (consM (rd 0) (consM (rd 1) (M.pure []))))) (seqS (par2 2 3 (.v (ixAt 0 (M.pure (.int 0)))) (.v (ixAt 0 (M.pure (.int 1))))) (retM (M.bind (consM (bin2 divD (rd 2) (M.bind (consM (rd 2) (consM (ixAt 1 (M.pure (.int 0))) (M.pure []))) fun ds => M.lift (int2 gcdI ds))) (consM (bin2 divD (rd 3) (M.bind (consM (rd 3) (consM (ixAt 1 (M.pure (.int 1))) (M.pure []))) fun ds => M.lift (int2 gcdI ds))) (M.pure []))) fun ds => M.lift (int2 lcmI ds)))))
def d_order : Den D := runD 4 g_order
def l_is_whole_0 : M Out := ifM (bin2 niD (rd 4) (pk 1)) (seqS (putM 1 (rd 4) (M.pure (.bl true))) (dropM (appendM 2 (rd 4)))) (M.pure .nx)
def t_is_whole_0 : M Bool := testT (pk 2)
def w_is_whole_0 : M Out := seqS (setM 3 (popM 2)) (forM (.nm 4) (seqM (callM 2 d_ends (consM (rd 0) (consM (rd 3) (M.pure []))))) (l_is_whole_0))
def g_is_whole : M Out := seqS (dropM (callM 1 d_check_town (consM (rd 0) (M.pure [])))) (seqS (ownM 1 (M.pure (.dT [([Sum.inl 0, Sum.inl 0], .bl true)]))) (seqS (ownM 2 (lstM (consM (tupM (consM (M.pure (.int 0)) (consM (M.pure (.int 0)) (M.pure [])))) (M.pure [])))) (seqS (whileM (t_is_whole_0) (w_is_whole_0)) (retM (M.map (bin2 eqD (M.bind (oneM (pk 1)) fun ds => M.lift (lenD ds)) (bin2 mulD (ixAt 0 (M.pure (.int 0))) (ixAt 0 (M.pure (.int 1))))) D.bl)))))
def d_is_whole : Den D := runD 5 g_is_whole
def t_lot_from_0 : M Bool := bin2 neD (rd 4) (pk 1)
def w_lot_from_0 : M Out := seqS (dropM (appendM 3 (rd 4))) (setM 4 (callM 3 d_added (consM (rd 0) (consM (rd 4) (consM (rd 2) (M.pure []))))))
def g_lot_from : M Out := seqS (setM 2 (callM 1 d_steps_difference (consM (rd 0) (M.pure [])))) (seqS (ownM 3 (lstM (consM (rd 1) (M.pure [])))) (seqS (setM 4 (callM 3 d_added (consM (rd 0) (consM (rd 1) (consM (rd 2) (M.pure [])))))) (seqS (whileM (t_lot_from_0) (w_lot_from_0)) (retM (rd 3)))))
def d_lot_from : Den D := runD 5 g_lot_from
def l_lots_0 : M Out := putM 2 (rd 5) (M.pure (.bl true))
def l_lots_1 : M Out := ifM (bin2 niD (rd 3) (pk 2)) (seqS (setM 4 (callM 2 d_lot_from (consM (rd 0) (consM (rd 3) (M.pure []))))) (seqS (dropM (appendM 1 (M.bind (consM (M.map (M.bind (consM (rd 4) (M.pure [])) fun ds => M.lift (sortD ds)) Co.d) (M.pure [])) fun ds => M.lift (tupleD ds)))) (forM (.nm 5) (seqM (rd 4)) (l_lots_0)))) (M.pure .nx)
def g_lots : M Out := seqS (dropM (callM 1 d_check_town (consM (rd 0) (M.pure [])))) (seqS (ownM 1 (lstM (M.pure []))) (seqS (ownM 2 (M.pure (.dT []))) (seqS (forM (.nm 3) (seqM (callM 1 d_crossings (consM (rd 0) (M.pure [])))) (l_lots_1)) (retM (M.bind (consM (rd 1) (M.pure [])) fun ds => M.lift (tupleD ds))))))
def d_lots : Den D := runD 6 g_lots
def g_count_lots : M Out := retM (bin2 divD (bin2 mulD (ixAt 0 (M.pure (.int 0))) (ixAt 0 (M.pure (.int 1)))) (callM 2 d_order (consM (rd 0) (consM (callM 1 d_steps_difference (consM (rd 0) (M.pure []))) (M.pure [])))))
def d_count_lots : Den D := runD 1 g_count_lots
def g_count_plans : M Out := seqS (dropM (callM 1 d_check_town (consM (rd 0) (M.pure [])))) (retM (bin2 shlD (M.pure (.int 1)) (callM 1 d_count_lots (consM (rd 0) (M.pure [])))))
def d_count_plans : Den D := runD 1 g_count_plans
def g__law_taken : M Out := seqS (ifM (bin2 gtD (ixAt 0 (M.pure (.int 3))) (M.pure (.int 0))) (seqS (setM 2 (bin2 modD (M.bind (oneM (ixAt 0 (M.pure (.int 3)))) fun ds => M.lift (intD ds)) (rd 1))) (seqS (putM 0 (M.pure (.int 3)) (bin2 divD (ixAt 0 (M.pure (.int 3))) (rd 1))) (retM (rd 2)))) (M.pure .nx)) (seqS (putM 0 (M.pure (.int 1)) (bin2 addD (ixAt 0 (M.pure (.int 1))) (M.pure (.int 1)))) (seqS (ifM (bin2 gtD (ixAt 0 (M.pure (.int 1))) (M.bind (oneM (ixAt 0 (M.pure (.int 0)))) fun ds => M.lift (lenD ds))) (seqS (putM 0 (M.pure (.int 2)) (bin2 modD (M.bind (oneM (bin2 addD (bin2 mulD (ixAt 0 (M.pure (.int 2))) (M.pure (.int 48271))) (M.pure (.int 11)))) fun ds => M.lift (intD ds)) (M.pure (.int 2147483647)))) (retM (bin2 modD (M.bind (oneM (bin2 divD (ixAt 0 (M.pure (.int 2))) (M.pure (.int 7)))) fun ds => M.lift (intD ds)) (rd 1)))) (M.pure .nx)) (seqS (setM 3 (bin2 ixD (ixAt 0 (M.pure (.int 0))) (bin2 subD (ixAt 0 (M.pure (.int 1))) (M.pure (.int 1))))) (seqS (putM 0 (M.pure (.int 2)) (bin2 modD (M.bind (oneM (bin2 addD (bin2 addD (bin2 mulD (ixAt 0 (M.pure (.int 2))) (M.pure (.int 48271))) (rd 3)) (M.pure (.int 11)))) fun ds => M.lift (intD ds)) (M.pure (.int 2147483647)))) (seqS (ifM (bin2 geD (rd 3) (bin2 powD (M.pure (.int 10)) (M.pure (.int 18)))) (putM 0 (M.pure (.int 3)) (bin2 divD (rd 3) (rd 1))) (M.pure .nx)) (retM (bin2 modD (M.bind (oneM (rd 3)) fun ds => M.lift (intD ds)) (rd 1))))))))
def d__law_taken : List D → Den (D × List D) := runL 4 g__law_taken
def g__law_pick : M Out := retM (ixAt 1 (lendM 0 2 d__law_taken (consM (M.bind (oneM (pk 1)) fun ds => M.lift (lenD ds)) (M.pure []))))
def d__law_pick : List D → Den (D × List D) := runL 2 g__law_pick
def g__law_alike (d_rec : Den D) : M Out := seqS (ifM (testB (isi2M .tuple .list (rd 1))) (seqS (ifM (orM (notM (testB (isi2M .tuple .list (rd 0)))) (bin2 neD (isiM .list (rd 0)) (isiM .list (rd 1)))) (retM (M.pure (.bl false))) (M.pure .nx)) (seqS (ifM (bin2 neD (M.bind (oneM (pk 0)) fun ds => M.lift (lenD ds)) (M.bind (oneM (pk 1)) fun ds => M.lift (lenD ds))) (retM (M.pure (.bl false))) (M.pure .nx)) (retM (M.map (nilEq (M.map (lcM [2] (.nm 2) (rngM rng1 (consM (M.bind (oneM (pk 1)) fun ds => M.lift (lenD ds)) (M.pure []))) (notM (testB (callM 2 d_rec (consM (ixAt 0 (rd 2)) (consM (ixAt 1 (rd 2)) (M.pure [])))))) (rd 2)) Co.d)) D.bl)))) (M.pure .nx)) (seqS (ifM (orM (bin2 isD (rd 1) (M.pure .non)) (testB (isiM .str (rd 1)))) (retM (andD (M.map (bin2 eqD (rd 0) (pk 1)) D.bl) (M.map (bin2 eqD (isiM .str (rd 0)) (isiM .str (rd 1))) D.bl))) (M.pure .nx)) (retM (andD (isiM .int (rd 0)) (andD (M.map (bin2 eqD (isiM .bool (rd 0)) (isiM .bool (rd 1))) D.bl) (M.map (bin2 eqD (rd 0) (pk 1)) D.bl)))))
def d__law_alike : Nat → Den D
  | 0 => fun _ => none
  | n + 1 => runD 3 (g__law_alike (d__law_alike n))
def e__law_crossings_0 : M D := tupM (consM (rd 2) (consM (rd 3) (M.pure [])))
def l__law_crossings_0 : M Out := ownM 1 (catM (rd 1) (M.map (lcM [3] (.nm 3) (rngM rng1 (consM (ixAt 0 (M.pure (.int 1))) (M.pure []))) (M.pure true) (e__law_crossings_0)) Co.d))
def g__law_crossings : M Out := seqS (ownM 1 (lstM (M.pure []))) (seqS (forM (.nm 2) (rngM rng1 (consM (ixAt 0 (M.pure (.int 0))) (M.pure []))) (l__law_crossings_0)) (retOwn 1))
def d__law_crossings : Den Co := runN 4 g__law_crossings
def c__law_town_0 : M Bool := bin2 neD (rd 7) (pk 6)
def e__law_town_0 : M D := rd 7
def g__law_town : M Out := seqS (setM 3 (bin2 addD (M.pure (.int 1)) (lendM 0 2 d__law_taken (consM (M.bind (consM (rd 1) (consM (rd 2) (M.pure []))) fun ds => M.lift (int2 (fun i j => some (if j < i then j else i)) ds)) (M.pure []))))) (seqS (setM 4 (bin2 addD (M.pure (.int 1)) (lendM 0 2 d__law_taken (consM (M.bind (consM (rd 1) (consM (bin2 divD (rd 2) (rd 3)) (M.pure []))) fun ds => M.lift (int2 (fun i j => some (if j < i then j else i)) ds)) (M.pure []))))) (seqS (setM 3 (iteM (bin2 ltD (bin2 mulD (rd 3) (rd 4)) (M.pure (.int 2))) (M.pure (.int 2)) (rd 3))) (seqS (ownM 5 (callM 1 d__law_crossings (consM (tupM (consM (rd 3) (consM (rd 4) (M.pure [])))) (M.pure [])))) (seqS (setM 6 (lendM 0 2 d__law_pick (consM (rd 5) (M.pure [])))) (retM (tupM (consM (rd 3) (consM (rd 4) (consM (rd 6) (consM (lendM 0 2 d__law_pick (consM (M.map (lcM [7] (.nm 7) (seqM (rd 5)) (c__law_town_0) (e__law_town_0)) Co.d) (M.pure []))) (M.pure [])))))))))))
def d__law_town : List D → Den (D × List D) := runL 8 g__law_town
def g__law_led : M Out := retM (tupM (consM (bin2 modD (bin2 addD (ixAt 1 (M.pure (.int 0))) (ixAt 2 (M.pure (.int 0)))) (ixAt 0 (M.pure (.int 0)))) (consM (bin2 modD (bin2 addD (ixAt 1 (M.pure (.int 1))) (ixAt 2 (M.pure (.int 1)))) (ixAt 0 (M.pure (.int 1)))) (M.pure []))))
def d__law_led : Den D := runD 3 g__law_led
def t__law_row_0 : M Bool := bin2 neD (rd 3) (tupM (consM (M.pure (.int 0)) (consM (M.pure (.int 0)) (M.pure []))))
def w__law_row_0 : M Out := seqS (dropM (appendM 2 (rd 3))) (setM 3 (callM 3 d__law_led (consM (rd 0) (consM (rd 3) (consM (rd 1) (M.pure []))))))
def g__law_row : M Out := seqS (par2 2 3 (.c (lstM (consM (tupM (consM (M.pure (.int 0)) (consM (M.pure (.int 0)) (M.pure [])))) (M.pure [])))) (.v (callM 3 d__law_led (consM (rd 0) (consM (tupM (consM (M.pure (.int 0)) (consM (M.pure (.int 0)) (M.pure [])))) (consM (rd 1) (M.pure []))))))) (seqS (whileM (t__law_row_0) (w__law_row_0)) (retM (rd 2)))
def d__law_row : Den D := runD 4 g__law_row
def g__law_gap : M Out := retM (tupM (consM (bin2 modD (bin2 subD (bin2 ixD (ixAt 0 (M.pure (.int 2))) (M.pure (.int 0))) (bin2 ixD (ixAt 0 (M.pure (.int 3))) (M.pure (.int 0)))) (ixAt 0 (M.pure (.int 0)))) (consM (bin2 modD (bin2 subD (bin2 ixD (ixAt 0 (M.pure (.int 2))) (M.pure (.int 1))) (bin2 ixD (ixAt 0 (M.pure (.int 3))) (M.pure (.int 1)))) (ixAt 0 (M.pure (.int 1)))) (M.pure []))))
def d__law_gap : Den D := runD 1 g__law_gap
def e__law_lots_0 : M D := callM 3 d__law_led (consM (rd 0) (consM (rd 3) (consM (rd 5) (M.pure []))))
def l__law_lots_0 : M Out := seqS (setM 4 (M.bind (consM (M.map (M.bind (consM (M.map (lcM [5] (.nm 5) (seqM (rd 1)) (M.pure true) (e__law_lots_0)) Co.d) (M.pure [])) fun ds => M.lift (sortD ds)) Co.d) (M.pure [])) fun ds => M.lift (tupleD ds))) (ifM (bin2 niD (rd 4) (pk 2)) (dropM (appendM 2 (rd 4))) (M.pure .nx))
def g__law_lots : M Out := seqS (par2 1 2 (.v (callM 2 d__law_row (consM (rd 0) (consM (callM 1 d__law_gap (consM (rd 0) (M.pure []))) (M.pure []))))) (.c (lstM (M.pure [])))) (seqS (forM (.nm 3) (seqM (M.map (callM 1 d__law_crossings (consM (rd 0) (M.pure []))) Co.d)) (l__law_lots_0)) (retM (rd 2)))
def d__law_lots : Den D := runD 6 g__law_lots
def l__law_is_whole_0 : M Out := seqS (setM 5 (callM 3 d__law_led (consM (rd 0) (consM (rd 3) (consM (rd 4) (M.pure [])))))) (ifM (bin2 niD (rd 5) (pk 1)) (seqS (dropM (appendM 1 (rd 5))) (dropM (appendM 2 (rd 5)))) (M.pure .nx))
def t__law_is_whole_0 : M Bool := nilNe (pk 2)
def w__law_is_whole_0 : M Out := seqS (setM 3 (popM 2)) (forM (.nm 4) (tseqM (sliceM (rd 0) (optM (M.pure (.int 2))) (M.pure none))) (l__law_is_whole_0))
def g__law_is_whole : M Out := seqS (par2 1 2 (.c (lstM (consM (tupM (consM (M.pure (.int 0)) (consM (M.pure (.int 0)) (M.pure [])))) (M.pure [])))) (.c (lstM (consM (tupM (consM (M.pure (.int 0)) (consM (M.pure (.int 0)) (M.pure [])))) (M.pure []))))) (seqS (whileM (t__law_is_whole_0) (w__law_is_whole_0)) (retM (M.map (bin2 eqD (M.bind (oneM (pk 1)) fun ds => M.lift (lenD ds)) (bin2 mulD (ixAt 0 (M.pure (.int 0))) (ixAt 0 (M.pure (.int 1))))) D.bl)))
def d__law_is_whole : Den D := runD 6 g__law_is_whole
def g_check_whole : M Out := ifM (notM (testB (callM 1 d_is_whole (consM (rd 0) (M.pure []))))) (raiseM 6) (M.pure .nx)
def d_check_whole : Den D := runD 1 g_check_whole
def e_check_table_0 : M D := callM 3 d_is_number (consM (rd 2) (consM (M.pure (.int 1)) (consM (M.pure (.int 2)) (M.pure []))))
def g_check_table : M Out := seqS (ifM (orM (notM (testB (isiM .tuple (rd 1)))) (bin2 neD (M.bind (oneM (pk 1)) fun ds => M.lift (lenD ds)) (bin2 mulD (ixAt 0 (M.pure (.int 0))) (ixAt 0 (M.pure (.int 1)))))) (raiseM 3) (M.pure .nx)) (ifM (notM (testB (M.bind (oneM (M.map (lcM [2] (.nm 2) (seqM (rd 1)) (M.pure true) (e_check_table_0)) Co.d)) fun ds => M.lift (onBls (fun ns => some (.bl (ns.all (fun b => b)))) ds)))) (raiseM 3) (M.pure .nx))
def d_check_table : Den D := runD 3 g_check_table
def l_check_choice_0 : M Out := seqS (ifM (notM (testB (callM 3 d_is_number (consM (rd 4) (consM (rd 3) (consM (rd 2) (M.pure []))))))) (raiseM 4) (M.pure .nx)) (setM 3 (bin2 addD (rd 4) (M.pure (.int 1))))
def g_check_choice : M Out := seqS (ifM (notM (testB (isiM .tuple (rd 1)))) (raiseM 4) (M.pure .nx)) (seqS (setM 2 (bin2 subD (callM 1 d_count_lots (consM (rd 0) (M.pure []))) (M.pure (.int 1)))) (seqS (setM 3 (M.pure (.int 0))) (forM (.nm 4) (seqM (rd 1)) (l_check_choice_0))))
def d_check_choice : Den D := runD 5 g_check_choice
def e_is_plan_0 : M D := rd 3
def e_is_plan_1 : M D := rd 4
def e_is_plan_2 : M D := ixAt 2 (rd 3)
def l_is_plan_0 : M Out := ifM (bin2 gtD (lenScM [3] (.nm 3) (seqM (rd 5)) (e_is_plan_2)) (M.pure (.int 1))) (retM (M.pure (.bl false))) (M.pure .nx)
def g_is_plan : M Out := seqS (dropM (callM 1 d_check_town (consM (rd 0) (M.pure [])))) (seqS (dropM (callM 2 d_check_table (consM (rd 0) (consM (rd 1) (M.pure []))))) (seqS (ownM 2 (dcM [3, 4] (.tp [3, 4]) (rngM zipD (consM (callM 1 d_crossings (consM (rd 0) (M.pure []))) (consM (rd 1) (M.pure [])))) (e_is_plan_0) (e_is_plan_1))) (seqS (forM (.nm 5) (seqM (callM 1 d_lots (consM (rd 0) (M.pure [])))) (l_is_plan_0)) (retM (M.pure (.bl true))))))
def d_is_plan : Den D := runD 6 g_is_plan
def l_table_0 : M Out := putM 2 (rd 5) (iteM (bin2 inD (rd 3) (pk 1)) (M.pure (.int 1)) (M.pure (.int 2)))
def l_table_1 : M Out := forM (.nm 5) (seqM (rd 4)) (l_table_0)
def e_table_0 : M D := ixAt 2 (rd 5)
def g_table : M Out := seqS (dropM (callM 1 d_check_town (consM (rd 0) (M.pure [])))) (seqS (dropM (callM 2 d_check_choice (consM (rd 0) (consM (rd 1) (M.pure []))))) (seqS (ownM 2 (M.pure (.dT []))) (seqS (forM (.tp [3, 4]) (rngM enumD (consM (callM 1 d_lots (consM (rd 0) (M.pure []))) (M.pure []))) (l_table_1)) (retM (M.bind (consM (M.map (lcM [5] (.nm 5) (seqM (callM 1 d_crossings (consM (rd 0) (M.pure [])))) (M.pure true) (e_table_0)) Co.d) (M.pure [])) fun ds => M.lift (tupleD ds))))))
def d_table : Den D := runD 6 g_table
def t_ring_from_0 : M Bool := bin2 neD (rd 3) (pk 1)
def w_ring_from_0 : M Out := seqS (dropM (appendM 2 (rd 3))) (setM 3 (ixAt 0 (rd 3)))
def g_ring_from : M Out := seqS (ownM 2 (lstM (consM (rd 1) (M.pure [])))) (seqS (setM 3 (ixAt 0 (rd 1))) (seqS (whileM (t_ring_from_0) (w_ring_from_0)) (retM (M.bind (consM (rd 2) (M.pure [])) fun ds => M.lift (tupleD ds)))))
def d_ring_from : Den D := runD 4 g_ring_from
def l_rings_0 : M Out := putM 3 (rd 4) (bin2 ixD (callM 2 d_ends (consM (rd 0) (consM (rd 4) (M.pure [])))) (bin2 subD (rd 5) (M.pure (.int 1))))
def l_rings_1 : M Out := putM 7 (rd 4) (M.pure (.bl true))
def l_rings_2 : M Out := ifM (bin2 niD (rd 8) (pk 7)) (seqS (setM 9 (callM 2 d_ring_from (consM (rd 3) (consM (rd 8) (M.pure []))))) (seqS (dropM (appendM 6 (rd 9))) (forM (.nm 4) (seqM (rd 9)) (l_rings_1)))) (M.pure .nx)
def g_rings : M Out := seqS (setM 2 (callM 2 d_table (consM (rd 0) (consM (rd 1) (M.pure []))))) (seqS (ownM 3 (M.pure (.dT []))) (seqS (forM (.tp [4, 5]) (rngM zipD (consM (callM 1 d_crossings (consM (rd 0) (M.pure []))) (consM (rd 2) (M.pure [])))) (l_rings_0)) (seqS (ownM 6 (lstM (M.pure []))) (seqS (ownM 7 (M.pure (.dT []))) (seqS (forM (.nm 8) (seqM (callM 1 d_crossings (consM (rd 0) (M.pure [])))) (l_rings_2)) (retM (M.bind (consM (rd 6) (M.pure [])) fun ds => M.lift (tupleD ds))))))))
def d_rings : Den D := runD 10 g_rings
def g_multiple : M Out := retM (tupM (consM (bin2 modD (bin2 mulD (rd 2) (ixAt 1 (M.pure (.int 0)))) (ixAt 0 (M.pure (.int 0)))) (consM (bin2 modD (bin2 mulD (rd 2) (ixAt 1 (M.pure (.int 1)))) (ixAt 0 (M.pure (.int 1)))) (M.pure []))))
def d_multiple : Den D := runD 3 g_multiple
def g_rings_made : M Out := seqS (setM 2 (callM 3 d_added (consM (rd 0) (consM (callM 3 d_multiple (consM (rd 0) (consM (ixAt 0 (M.pure (.int 2))) (consM (rd 1) (M.pure []))))) (consM (callM 3 d_multiple (consM (rd 0) (consM (ixAt 0 (M.pure (.int 3))) (consM (bin2 subD (callM 1 d_count_lots (consM (rd 0) (M.pure []))) (rd 1)) (M.pure []))))) (M.pure [])))))) (retM (bin2 divD (callM 2 d_order (consM (rd 0) (consM (callM 1 d_steps_difference (consM (rd 0) (M.pure []))) (M.pure [])))) (callM 2 d_order (consM (rd 0) (consM (rd 2) (M.pure []))))))
def d_rings_made : Den D := runD 3 g_rings_made
def l_plans_by_rings_0 : M Out := seqS (setM 4 (callM 2 d_rings_made (consM (rd 0) (consM (rd 3) (M.pure []))))) (putM 2 (rd 4) (bin2 addD (getN 2 (rd 4) (M.pure (.int 0))) (M.bind (consM (rd 1) (consM (rd 3) (M.pure []))) fun ds => M.lift (int2 combI ds))))
def e_plans_by_rings_0 : M D := tupM (consM (rd 4) (consM (ixAt 2 (rd 4)) (M.pure [])))
def g_plans_by_rings : M Out := seqS (dropM (callM 1 d_check_whole (consM (rd 0) (M.pure [])))) (seqS (setM 1 (callM 1 d_count_lots (consM (rd 0) (M.pure [])))) (seqS (ownM 2 (M.pure (.dK []))) (seqS (forM (.nm 3) (rngM rng1 (consM (bin2 addD (rd 1) (M.pure (.int 1))) (M.pure []))) (l_plans_by_rings_0)) (retM (M.bind (consM (M.map (lcM [4] (.nm 4) (seqM (M.map (M.bind (consM (rd 2) (M.pure [])) fun ds => M.lift (sortDK ds)) Co.d)) (M.pure true) (e_plans_by_rings_0)) Co.d) (M.pure [])) fun ds => M.lift (tupleD ds))))))
def d_plans_by_rings : Den D := runD 5 g_plans_by_rings
def g_count_rings : M Out := seqS (dropM (callM 1 d_check_whole (consM (rd 0) (M.pure [])))) (seqS (ifM (notM (testB (callM 3 d_is_number (consM (rd 1) (consM (M.pure (.int 0)) (consM (callM 1 d_count_lots (consM (rd 0) (M.pure []))) (M.pure []))))))) (raiseM 5) (M.pure .nx)) (retM (callM 2 d_rings_made (consM (rd 0) (consM (rd 1) (M.pure []))))))
def d_count_rings : Den D := runD 2 g_count_rings
def c_numbers_0 : M Bool := bin2 eqD (callM 2 d_rings_made (consM (rd 0) (consM (rd 1) (M.pure [])))) (M.pure (.int 1))
def e_numbers_0 : M D := rd 1
def g_numbers : M Out := seqS (dropM (callM 1 d_check_town (consM (rd 0) (M.pure [])))) (seqS (ifM (notM (testB (callM 1 d_is_whole (consM (rd 0) (M.pure []))))) (retM (tupM (M.pure []))) (M.pure .nx)) (retM (M.bind (consM (M.map (lcM [1] (.nm 1) (rngM rng1 (consM (bin2 addD (callM 1 d_count_lots (consM (rd 0) (M.pure []))) (M.pure (.int 1))) (M.pure []))) (c_numbers_0) (e_numbers_0)) Co.d) (M.pure [])) fun ds => M.lift (tupleD ds))))
def d_numbers : Den D := runD 2 g_numbers
def e_count_rounds_0 : M D := M.bind (consM (rd 2) (consM (rd 3) (M.pure []))) fun ds => M.lift (int2 combI ds)
def g_count_rounds : M Out := seqS (setM 1 (callM 1 d_numbers (consM (rd 0) (M.pure [])))) (seqS (setM 2 (callM 1 d_count_lots (consM (rd 0) (M.pure [])))) (retM (M.bind (oneM (M.map (lcM [3] (.nm 3) (seqM (rd 1)) (M.pure true) (e_count_rounds_0)) Co.d)) fun ds => M.lift (onInts (fun ns => some (.int ns.sum)) ds))))
def d_count_rounds : Den D := runD 4 g_count_rounds
def l__law_rings_0 : M Out := putM 3 (rd 4) (callM 3 d__law_led (consM (rd 0) (consM (rd 4) (consM (ixAt 0 (bin2 addD (M.pure (.int 1)) (rd 5))) (M.pure [])))))
def t__law_rings_0 : M Bool := bin2 niD (rd 8) (pk 7)
def w__law_rings_0 : M Out := seqS (dropM (appendM 7 (rd 8))) (setM 8 (ixAt 3 (rd 8)))
def c__law_rings_0 : M Bool := bin2 niD (rd 4) (pk 7)
def e__law_rings_0 : M D := rd 4
def t__law_rings_1 : M Bool := nilNe (pk 2)
def w__law_rings_1 : M Out := seqS (par2 7 8 (.c (lstM (M.pure []))) (.v (ixAt 2 (M.pure (.int 0))))) (seqS (whileM (t__law_rings_0) (w__law_rings_0)) (seqS (dropM (appendM 6 (M.bind (consM (rd 7) (M.pure [])) fun ds => M.lift (tupleD ds)))) (ownM 2 (lcM [4] (.nm 4) (seqM (rd 2)) (c__law_rings_0) (e__law_rings_0)))))
def g__law_rings : M Out := seqS (par2 2 3 (.c (callM 1 d__law_crossings (consM (rd 0) (M.pure [])))) (.c (M.pure (.dT [])))) (seqS (forM (.tp [4, 5]) (rngM zipD (consM (rd 2) (consM (rd 1) (M.pure [])))) (l__law_rings_0)) (seqS (ifM (bin2 neD (M.map (valsM 3) Co.d) (pk 2)) (retM (M.pure .non)) (M.pure .nx)) (seqS (ownM 6 (lstM (M.pure []))) (seqS (whileM (t__law_rings_1) (w__law_rings_1)) (retM (M.bind (consM (rd 6) (M.pure [])) fun ds => M.lift (tupleD ds)))))))
def d__law_rings : Den D := runD 9 g__law_rings
def l__law_lead_0 : M Out := setM 2 (callM 3 d__law_led (consM (rd 0) (consM (rd 2) (consM (iteM (bin2 ltD (rd 4) (pk 1)) (ixAt 0 (M.pure (.int 2))) (ixAt 0 (M.pure (.int 3)))) (M.pure [])))))
def g__law_lead : M Out := seqS (par2 2 3 (.v (tupM (consM (M.pure (.int 0)) (consM (M.pure (.int 0)) (M.pure []))))) (.v (M.bind (oneM (callM 1 d__law_lots (consM (rd 0) (M.pure [])))) fun ds => M.lift (lenD ds)))) (seqS (forM (.nm 4) (rngM rng1 (consM (rd 3) (M.pure []))) (l__law_lead_0)) (retM (rd 2)))
def d__law_lead : Den D := runD 5 g__law_lead
def e_is_open_walk_0 : M D := callM 3 d_is_pair (consM (rd 4) (consM (rd 2) (consM (rd 3) (M.pure []))))
def e_is_open_walk_1 : M D := M.map (bin2 inD (rd 6) (callM 2 d_ends (consM (rd 0) (consM (rd 5) (M.pure []))))) D.bl
def g_is_open_walk : M Out := seqS (tgtM (.tp [2, 3]) (tupM (consM (ixAt 0 (M.pure (.int 0))) (consM (ixAt 0 (M.pure (.int 1))) (M.pure []))))) (seqS (ifM (orM (notM (testB (isiM .tuple (rd 1)))) (bin2 neD (M.bind (oneM (pk 1)) fun ds => M.lift (lenD ds)) (bin2 mulD (rd 2) (rd 3)))) (retM (M.pure (.bl false))) (M.pure .nx)) (seqS (ifM (notM (testB (M.bind (oneM (M.map (lcM [4] (.nm 4) (seqM (rd 1)) (M.pure true) (e_is_open_walk_0)) Co.d)) fun ds => M.lift (onBls (fun ns => some (.bl (ns.all (fun b => b)))) ds)))) (retM (M.pure (.bl false))) (M.pure .nx)) (seqS (ifM (orM (bin2 neD (ixAt 1 (M.pure (.int 0))) (tupM (consM (M.pure (.int 0)) (consM (M.pure (.int 0)) (M.pure []))))) (bin2 neD (M.bind (rd 1) fun d => M.lift (lenSetD d)) (M.bind (oneM (pk 1)) fun ds => M.lift (lenD ds)))) (retM (M.pure (.bl false))) (M.pure .nx)) (retM (M.bind (oneM (M.map (lcM [5, 6] (.tp [5, 6]) (rngM zipD (consM (rd 1) (consM (sliceM (rd 1) (optM (M.pure (.int 1))) (M.pure none)) (M.pure [])))) (M.pure true) (e_is_open_walk_1)) Co.d)) fun ds => M.lift (onBls (fun ns => some (.bl (ns.all (fun b => b)))) ds))))))
def d_is_open_walk : Den D := runD 7 g_is_open_walk
def g_round_trip : M Out := seqS (setM 1 (callM 1 d_numbers (consM (rd 0) (M.pure [])))) (seqS (ifM (notM (testT (pk 1))) (retM (M.pure .non)) (M.pure .nx)) (seqS (setM 2 (M.bind (ixAt 1 (M.pure (.int 0))) fun d => M.lift (tupRg d))) (retM (bin2 ixD (callM 2 d_rings (consM (rd 0) (consM (rd 2) (M.pure [])))) (M.pure (.int 0))))))
def d_round_trip : Den D := runD 3 g_round_trip
def g_is_round_trip : M Out := retM (andD (callM 2 d_is_open_walk (consM (rd 0) (consM (rd 1) (M.pure [])))) (M.map (bin2 inD (tupM (consM (M.pure (.int 0)) (consM (M.pure (.int 0)) (M.pure [])))) (callM 2 d_ends (consM (rd 0) (consM (ixAt 1 (un1 negD (M.pure (.int 1)))) (M.pure []))))) D.bl))
def d_is_round_trip : Den D := runD 2 g_is_round_trip
def g_shows_round_trip : M Out := seqS (ifM (notM (testT (callM 1 d_numbers (consM (rd 0) (M.pure []))))) (retM (M.map (bin2 isD (rd 1) (M.pure .non)) D.bl)) (M.pure .nx)) (retM (callM 2 d_is_round_trip (consM (rd 0) (consM (rd 1) (M.pure [])))))
def d_shows_round_trip : Den D := runD 2 g_shows_round_trip
def l__law_choose_0 : M Out := setM 2 (bin2 divD (bin2 mulD (rd 2) (bin2 subD (rd 0) (rd 3))) (bin2 addD (rd 3) (M.pure (.int 1))))
def g__law_choose : M Out := seqS (setM 2 (M.pure (.int 1))) (seqS (forM (.nm 3) (rngM rng1 (consM (rd 1) (M.pure []))) (l__law_choose_0)) (retM (rd 2)))
def d__law_choose : Den D := runD 4 g__law_choose
def e__law_walks_0 : M D := callM 3 d__law_led (consM (rd 0) (consM (ixAt 1 (bin2 subD (rd 3) (M.pure (.int 1)))) (consM (rd 5) (M.pure []))))
def l__law_walks_0 : M Out := seqS (ifM (orM (notM (testB (isiM .tuple (rd 4)))) (orM (bin2 niD (rd 4) (pk 2)) (bin2 inD (rd 4) (sliceM (rd 1) (M.pure none) (optM (rd 3)))))) (retM (M.pure (.bl false))) (M.pure .nx)) (seqS (ifM (orM (testB (isiM .bool (ixAt 4 (M.pure (.int 0))))) (testB (isiM .bool (ixAt 4 (M.pure (.int 1)))))) (retM (M.pure (.bl false))) (M.pure .nx)) (ifM (andM (bin2 gtD (rd 3) (M.pure (.int 0))) (bin2 niD (rd 4) (M.map (lcM [5] (.nm 5) (seqM (sliceM (rd 0) (optM (M.pure (.int 2))) (M.pure none))) (M.pure true) (e__law_walks_0)) Co.d))) (retM (M.pure (.bl false))) (M.pure .nx)))
def g__law_walks : M Out := seqS (ownM 2 (callM 1 d__law_crossings (consM (rd 0) (M.pure [])))) (seqS (ifM (orM (notM (testB (isiM .tuple (rd 1)))) (orM (bin2 neD (M.bind (oneM (pk 1)) fun ds => M.lift (lenD ds)) (M.bind (oneM (pk 2)) fun ds => M.lift (lenD ds))) (bin2 neD (sliceM (rd 1) (M.pure none) (optM (M.pure (.int 1)))) (tupM (consM (tupM (consM (M.pure (.int 0)) (consM (M.pure (.int 0)) (M.pure [])))) (M.pure [])))))) (retM (M.pure (.bl false))) (M.pure .nx)) (seqS (forM (.tp [3, 4]) (rngM enumD (consM (rd 1) (M.pure []))) (l__law_walks_0)) (retM (M.pure (.bl true)))))
def d__law_walks : Den D := runD 6 g__law_walks
def g__law_bent : M Out := seqS (ownM 3 (iteM (bin2 isntD (rd 2) (M.pure .non)) (M.bind (consM (rd 2) (M.pure [])) fun ds => M.lift (listD ds)) (callM 1 d__law_crossings (consM (rd 1) (M.pure []))))) (seqS (par2 4 5 (.v (lendM 0 2 d__law_taken (consM (M.bind (oneM (pk 3)) fun ds => M.lift (lenD ds)) (M.pure [])))) (.v (lendM 0 2 d__law_taken (consM (M.pure (.int 5)) (M.pure []))))) (seqS (ifM (bin2 eqD (rd 5) (M.pure (.int 0))) (putM 3 (rd 4) (lendM 0 2 d__law_pick (consM (M.map (callM 1 d__law_crossings (consM (rd 1) (M.pure []))) Co.d) (M.pure [])))) (M.pure .nx)) (seqS (ifM (bin2 eqD (rd 5) (M.pure (.int 1))) (setM 3 (bin2 addD (sliceM (rd 3) (M.pure none) (optM (rd 4))) (sliceM (rd 3) (optM (bin2 addD (rd 4) (M.pure (.int 1)))) (M.pure none)))) (M.pure .nx)) (seqS (ifM (bin2 eqD (rd 5) (M.pure (.int 2))) (setM 3 (bin2 addD (sliceM (rd 3) (optM (rd 4)) (M.pure none)) (sliceM (rd 3) (M.pure none) (optM (rd 4))))) (M.pure .nx)) (seqS (ifM (bin2 eqD (rd 5) (M.pure (.int 3))) (setM 3 (bin2 addD (sliceM (rd 3) (M.pure none) (optM (M.pure (.int 1)))) (backM (rd 3) (M.pure none) (optM (M.pure (.int 0)))))) (M.pure .nx)) (seqS (ifM (bin2 eqD (rd 5) (M.pure (.int 4))) (setM 3 (bin2 addD (rd 3) (sliceM (rd 3) (M.pure none) (optM (M.pure (.int 1)))))) (M.pure .nx)) (retM (M.bind (consM (rd 3) (M.pure [])) fun ds => M.lift (tupleD ds)))))))))
def d__law_bent : List D → Den (D × List D) := runL 6 g__law_bent
def g_check_sides : M Out := ifM (notM (testB (callM 2 d_are_sides (consM (rd 0) (consM (rd 1) (M.pure [])))))) (raiseM 5) (M.pure .nx)
def d_check_sides : Den D := runD 2 g_check_sides
def g_grid : M Out := seqS (dropM (callM 2 d_check_sides (consM (rd 0) (consM (rd 1) (M.pure []))))) (retM (tupM (consM (rd 0) (consM (rd 1) (consM (tupM (consM (bin2 modD (M.pure (.int 1)) (rd 0)) (consM (M.pure (.int 0)) (M.pure [])))) (consM (tupM (consM (M.pure (.int 0)) (consM (bin2 modD (M.pure (.int 1)) (rd 1)) (M.pure [])))) (M.pure [])))))))
def d_grid : Den D := runD 2 g_grid
def c_shares_0 : M Bool := andM (bin2 eqD (M.bind (consM (rd 3) (consM (rd 0) (M.pure []))) fun ds => M.lift (int2 gcdI ds)) (M.pure (.int 1))) (bin2 eqD (M.bind (consM (bin2 subD (rd 2) (rd 3)) (consM (rd 1) (M.pure []))) fun ds => M.lift (int2 gcdI ds)) (M.pure (.int 1)))
def e_shares_0 : M D := tupM (consM (rd 3) (consM (bin2 subD (rd 2) (rd 3)) (M.pure [])))
def g_shares : M Out := seqS (dropM (callM 2 d_check_sides (consM (rd 0) (consM (rd 1) (M.pure []))))) (seqS (setM 2 (M.bind (consM (rd 0) (consM (rd 1) (M.pure []))) fun ds => M.lift (int2 gcdI ds))) (retM (M.bind (consM (M.map (lcM [3] (.nm 3) (rngM rng1 (consM (bin2 addD (rd 2) (M.pure (.int 1))) (M.pure []))) (c_shares_0) (e_shares_0)) Co.d) (M.pure [])) fun ds => M.lift (tupleD ds))))
def d_shares : Den D := runD 4 g_shares
def e_round_grids_0 : M D := tupM (consM (rd 1) (consM (rd 2) (M.pure [])))
def i_round_grids_0 : M (List D) := rngM rng2 (consM (M.pure (.int 1)) (consM (bin2 addD (rd 0) (M.pure (.int 1))) (M.pure [])))
def g_round_grids : M Out := seqS (ifM (notM (testB (callM 3 d_is_number (consM (rd 0) (consM (M.pure (.int 1)) (consM (M.pure (.int 12)) (M.pure []))))))) (raiseM 5) (M.pure .nx)) (retM (M.bind (consM (M.map (lc2M [1, 2] [2] (.nm 1) (rngM rng2 (consM (M.pure (.int 1)) (consM (bin2 addD (rd 0) (M.pure (.int 1))) (M.pure [])))) (M.pure true) (i_round_grids_0) (.nm 2) (andM (testB (callM 2 d_are_sides (consM (rd 1) (consM (rd 2) (M.pure []))))) (bin2 neD (callM 2 d_shares (consM (rd 1) (consM (rd 2) (M.pure [])))) (tupM (M.pure [])))) (e_round_grids_0)) Co.d) (M.pure [])) fun ds => M.lift (tupleD ds)))
def d_round_grids : Den D := runD 3 g_round_grids
def c__law_divisor_0 : M Bool := bin2 eqD (bin2 addD (bin2 modD (rd 0) (rd 2)) (bin2 modD (rd 1) (rd 2))) (M.pure (.int 0))
def e__law_divisor_0 : M D := rd 2
def g__law_divisor : M Out := retM (M.bind (consM (M.map (lcM [2] (.nm 2) (rngM rng2 (consM (M.pure (.int 1)) (consM (bin2 addD (M.bind (consM (rd 0) (consM (rd 1) (M.pure []))) fun ds => M.lift (int2 (fun i j => some (if j > i then j else i)) ds)) (M.pure (.int 1))) (M.pure [])))) (c__law_divisor_0) (e__law_divisor_0)) Co.d) (M.pure [])) fun ds => M.lift (int2 (fun i j => some (if j > i then j else i)) ds))
def d__law_divisor : Den D := runD 3 g__law_divisor
def l__law_shares_0 : M Out := ifM (bin2 eqD (M.bind (oneM (callM 2 d__law_row (consM (rd 2) (consM (tupM (consM (bin2 modD (rd 6) (rd 0)) (consM (bin2 modD (bin2 subD (rd 4) (rd 6)) (rd 1)) (M.pure [])))) (M.pure []))))) fun ds => M.lift (lenD ds)) (pk 5)) (dropM (appendM 3 (tupM (consM (rd 6) (consM (bin2 subD (rd 4) (rd 6)) (M.pure [])))))) (M.pure .nx)
def g__law_shares : M Out := seqS (par2 2 3 (.v (tupM (consM (rd 0) (consM (rd 1) (consM (tupM (consM (bin2 modD (M.pure (.int 1)) (rd 0)) (consM (M.pure (.int 0)) (M.pure [])))) (consM (tupM (consM (M.pure (.int 0)) (consM (bin2 modD (M.pure (.int 1)) (rd 1)) (M.pure [])))) (M.pure []))))))) (.c (lstM (M.pure [])))) (seqS (par2 4 5 (.v (callM 2 d__law_divisor (consM (rd 0) (consM (rd 1) (M.pure []))))) (.v (bin2 divD (bin2 mulD (rd 0) (rd 1)) (callM 2 d__law_divisor (consM (rd 0) (consM (rd 1) (M.pure []))))))) (seqS (forM (.nm 6) (rngM rng1 (consM (bin2 addD (rd 4) (M.pure (.int 1))) (M.pure []))) (l__law_shares_0)) (retM (rd 3))))
def d__law_shares : Den D := runD 7 g__law_shares
def l_open_walk_0 : M Out := seqS (tgtM (.tp [4, 5]) (callM 2 d_ends (consM (rd 0) (consM (ixAt 2 (un1 negD (M.pure (.int 1)))) (M.pure []))))) (dropM (appendM 2 (iteM (bin2 eqD (bin2 modD (rd 3) (rd 1)) (M.pure (.int 0))) (rd 5) (rd 4))))
def g_open_walk : M Out := seqS (ifM (notM (testB (callM 1 d_is_whole (consM (rd 0) (M.pure []))))) (retM (M.pure .non)) (M.pure .nx)) (seqS (setM 1 (callM 2 d_order (consM (rd 0) (consM (ixAt 0 (M.pure (.int 2))) (M.pure []))))) (seqS (ownM 2 (lstM (consM (tupM (consM (M.pure (.int 0)) (consM (M.pure (.int 0)) (M.pure [])))) (M.pure [])))) (seqS (forM (.nm 3) (rngM rng2 (consM (M.pure (.int 1)) (consM (bin2 mulD (ixAt 0 (M.pure (.int 0))) (ixAt 0 (M.pure (.int 1)))) (M.pure [])))) (l_open_walk_0)) (retM (M.bind (consM (rd 2) (M.pure [])) fun ds => M.lift (tupleD ds))))))
def d_open_walk : Den D := runD 6 g_open_walk
def g_shows_open_walk : M Out := seqS (ifM (notM (testB (callM 1 d_is_whole (consM (rd 0) (M.pure []))))) (retM (M.map (bin2 isD (rd 1) (M.pure .non)) D.bl)) (M.pure .nx)) (retM (callM 2 d_is_open_walk (consM (rd 0) (consM (rd 1) (M.pure [])))))
def d_shows_open_walk : Den D := runD 2 g_shows_open_walk
def g__law_refused : M Out := seqS (ownM 0 (lstM (consM (tupM (consM (M.pure (.str "")) (consM (tupM (consM (M.pure (.int 2)) (consM (M.pure (.int 1)) (M.pure [])))) (M.pure [])))) (consM (tupM (consM (M.pure (.str "town")) (consM (tupM (consM (M.pure (.int 1)) (consM (M.pure (.int 2)) (M.pure [])))) (M.pure [])))) (consM (tupM (consM (M.pure (.str "towns 2 2")) (consM (tupM (consM (M.pure (.int 1)) (consM (M.pure (.int 1)) (M.pure [])))) (M.pure [])))) (M.pure [])))))) (seqS (ownM 0 (catM (rd 0) (M.map (lstM (consM (tupM (consM (M.pure (.str "town 0 2")) (consM (tupM (consM (M.pure (.int 1)) (consM (M.pure (.int 2)) (M.pure [])))) (M.pure [])))) (consM (tupM (consM (M.pure (.str "town 2 13")) (consM (tupM (consM (M.pure (.int 1)) (consM (M.pure (.int 3)) (M.pure [])))) (M.pure [])))) (consM (tupM (consM (M.pure (.str "town 2")) (consM (tupM (consM (M.pure (.int 1)) (consM (M.pure (.int 3)) (M.pure [])))) (M.pure [])))) (M.pure []))))) Co.d))) (seqS (ownM 0 (catM (rd 0) (M.map (lstM (consM (tupM (consM (M.pure (.str "town 1 1")) (consM (tupM (consM (M.pure (.int 1)) (consM (M.pure (.int 3)) (M.pure [])))) (M.pure [])))) (consM (tupM (consM (M.pure (.str "town 2 2 2")) (consM (tupM (consM (M.pure (.int 1)) (consM (M.pure (.int 4)) (M.pure [])))) (M.pure [])))) (M.pure [])))) Co.d))) (seqS (ownM 0 (catM (rd 0) (M.map (lstM (consM (tupM (consM (M.pure (.str "town 2 2")) (consM (tupM (consM (M.pure (.int 2)) (consM (M.pure (.int 1)) (M.pure [])))) (M.pure [])))) (consM (tupM (consM (M.pure (.str "town 2 2
second 0 1")) (consM (tupM (consM (M.pure (.int 2)) (consM (M.pure (.int 1)) (M.pure [])))) (M.pure [])))) (M.pure [])))) Co.d))) (seqS (ownM 0 (catM (rd 0) (M.map (lstM (consM (tupM (consM (M.pure (.str "town 2 2
first 2 0")) (consM (tupM (consM (M.pure (.int 2)) (consM (M.pure (.int 2)) (M.pure [])))) (M.pure [])))) (consM (tupM (consM (M.pure (.str "town 2 2
first 0 02")) (consM (tupM (consM (M.pure (.int 2)) (consM (M.pure (.int 3)) (M.pure [])))) (M.pure [])))) (M.pure [])))) Co.d))) (seqS (ownM 0 (catM (rd 0) (M.map (lstM (consM (tupM (consM (M.pure (.str "town 2 2
first 0 0 0")) (consM (tupM (consM (M.pure (.int 2)) (consM (M.pure (.int 4)) (M.pure [])))) (M.pure [])))) (consM (tupM (consM (M.pure (.str "town 02 2")) (consM (tupM (consM (M.pure (.int 1)) (consM (M.pure (.int 2)) (M.pure [])))) (M.pure [])))) (M.pure [])))) Co.d))) (seqS (ownM 0 (catM (rd 0) (M.map (lstM (consM (tupM (consM (M.pure (.str "town 2 3
first 0 2")) (consM (tupM (consM (M.pure (.int 3)) (consM (M.pure (.int 1)) (M.pure [])))) (M.pure [])))) (consM (tupM (consM (M.pure (.str "town 2 3
first 0 2
second 0 2")) (consM (tupM (consM (M.pure (.int 3)) (consM (M.pure (.int 3)) (M.pure [])))) (M.pure [])))) (M.pure [])))) Co.d))) (seqS (ownM 0 (catM (rd 0) (M.map (lstM (consM (tupM (consM (M.pure (.str "town 2 3
first 0 2
second 0 2 1")) (consM (tupM (consM (M.pure (.int 3)) (consM (M.pure (.int 3)) (M.pure [])))) (M.pure [])))) (M.pure []))) Co.d))) (seqS (ownM 0 (catM (rd 0) (M.map (lstM (consM (tupM (consM (M.pure (.str "town 2 3
first 0 2
second 1 2 1")) (consM (tupM (consM (M.pure (.int 3)) (consM (M.pure (.int 4)) (M.pure [])))) (M.pure [])))) (M.pure []))) Co.d))) (seqS (ownM 0 (catM (rd 0) (M.map (lstM (consM (tupM (consM (M.pure (.str "town 2 3
first 0 2
second 1 2
town")) (consM (tupM (consM (M.pure (.int 4)) (consM (M.pure (.int 1)) (M.pure [])))) (M.pure [])))) (consM (tupM (consM (M.pure (.str "
")) (consM (tupM (consM (M.pure (.int 3)) (consM (M.pure (.int 1)) (M.pure [])))) (M.pure [])))) (M.pure [])))) Co.d))) (seqS (ownM 0 (catM (rd 0) (M.map (lstM (consM (tupM (consM (M.pure (.str "town 12 1
first 11 0
second 0 0")) (consM (M.pure (.str "")) (M.pure [])))) (M.pure []))) Co.d))) (retM (M.map (catM (rd 0) (M.map (lstM (consM (tupM (consM (M.pure (.str "

town 2 2

first x 1")) (consM (tupM (consM (M.pure (.int 5)) (consM (M.pure (.int 2)) (M.pure [])))) (M.pure [])))) (consM (tupM (consM (M.pure (.str "town 1 1 1")) (consM (tupM (consM (M.pure (.int 1)) (consM (M.pure (.int 3)) (M.pure [])))) (M.pure [])))) (M.pure [])))) Co.d)) Co.d))))))))))))
def d__law_refused : Den D := runD 1 g__law_refused
def t__wall_0 : M Bool := testT (M.pure (.bl true))
def w__wall_0 : M Out := M.pure .nx
def g__wall : M Out := whileM (t__wall_0) (w__wall_0)
def d__wall : Den D := runD 1 g__wall
end K04

namespace K04
open PySem PySem.Spec PyProof.Rows L2 Dn
def c__law_divisor2_0 : M Bool := bin2 eqD (bin2 addD (bin2 modD (rd 0) (rd 2)) (bin2 modD (rd 1) (rd 2))) (M.pure (.int 0))
def e__law_divisor2_0 : M D := rd 2
def g__law_divisor2 : M Out := retM (M.bind (oneM (M.map (lcM [2] (.nm 2) (rngM rng2 (consM (M.pure (.int 1)) (consM (bin2 addD (M.bind (consM (rd 0) (consM (rd 1) (M.pure []))) fun ds => M.lift (int2 (fun i j => some (if j > i then j else i)) ds)) (M.pure (.int 1))) (M.pure [])))) (c__law_divisor2_0) (e__law_divisor2_0)) Co.d)) fun ds => M.lift (onInts (fun ns => (maxI ns).map D.int) ds))
def d__law_divisor2 : Den D := runD 3 g__law_divisor2
def l__law_shares2_0 : M Out := ifM (bin2 eqD (M.bind (oneM (callM 2 d__law_row (consM (rd 2) (consM (tupM (consM (bin2 modD (rd 6) (rd 0)) (consM (bin2 modD (bin2 subD (rd 4) (rd 6)) (rd 1)) (M.pure [])))) (M.pure []))))) fun ds => M.lift (lenD ds)) (pk 5)) (dropM (appendM 3 (tupM (consM (rd 6) (consM (bin2 subD (rd 4) (rd 6)) (M.pure [])))))) (M.pure .nx)
def g__law_shares2 : M Out := seqS (par2 2 3 (.v (tupM (consM (rd 0) (consM (rd 1) (consM (tupM (consM (bin2 modD (M.pure (.int 1)) (rd 0)) (consM (M.pure (.int 0)) (M.pure [])))) (consM (tupM (consM (M.pure (.int 0)) (consM (bin2 modD (M.pure (.int 1)) (rd 1)) (M.pure [])))) (M.pure []))))))) (.c (lstM (M.pure [])))) (seqS (par2 4 5 (.v (callM 2 d__law_divisor2 (consM (rd 0) (consM (rd 1) (M.pure []))))) (.v (bin2 divD (bin2 mulD (rd 0) (rd 1)) (callM 2 d__law_divisor2 (consM (rd 0) (consM (rd 1) (M.pure []))))))) (seqS (forM (.nm 6) (rngM rng1 (consM (bin2 addD (rd 4) (M.pure (.int 1))) (M.pure []))) (l__law_shares2_0)) (retM (rd 3))))
def d__law_shares2 : Den D := runD 7 g__law_shares2
def l_law_0 : M Out := seqS (ifM (orM (bin2 neD (callM 2 d__law_divisor2 (consM (rd 6) (consM (rd 2) (M.pure [])))) (M.pure (.int 1))) (bin2 neD (callM 2 d__law_divisor2 (consM (rd 7) (consM (rd 3) (M.pure [])))) (M.pure (.int 1)))) (retM (M.pure (.bl false))) (M.pure .nx)) (ifM (bin2 neD (bin2 addD (rd 6) (rd 7)) (callM 2 d__law_divisor2 (consM (rd 2) (consM (rd 3) (M.pure []))))) (retM (M.pure (.bl false))) (M.pure .nx))
def e_law_0 : M D := rd 6
def e_law_1 : M D := callM 2 d__law_choose (consM (bin2 addD (rd 6) (rd 7)) (consM (rd 6) (M.pure [])))
def c_law_0 : M Bool := bin2 gtD (bin2 mulD (rd 10) (rd 12)) (M.pure (.int 1))
def e_law_2 : M D := rd 12
def c_law_1 : M Bool := nilNe (callM 2 d__law_shares2 (consM (rd 10) (consM (rd 12) (M.pure []))))
def e_law_3 : M D := tupM (consM (rd 10) (consM (rd 12) (M.pure [])))
def l_law_1 : M Out := seqS (ownM 11 (lcM [12] (.nm 12) (rngM rng2 (consM (M.pure (.int 1)) (consM (bin2 addD (rd 8) (M.pure (.int 1))) (M.pure [])))) (c_law_0) (e_law_2))) (ownM 9 (catM (rd 9) (M.map (lcM [12] (.nm 12) (seqM (rd 11)) (c_law_1) (e_law_3)) Co.d)))
def h0_law : M Out := ownM 1 (lstM (consM (rd 0) (consM (M.pure (.int 0)) (consM (M.pure (.int 6105)) (consM (M.pure (.int 0)) (M.pure []))))))
def h1_law : M Out := par2 2 3 (.v (bin2 addD (M.pure (.int 1)) (lendM 1 2 d__law_taken (consM (M.pure (.int 12)) (M.pure []))))) (.v (bin2 addD (M.pure (.int 1)) (lendM 1 2 d__law_taken (consM (M.pure (.int 12)) (M.pure [])))))
def h2_law : M Out := setM 2 (iteM (bin2 ltD (bin2 mulD (rd 2) (rd 3)) (M.pure (.int 2))) (M.pure (.int 2)) (rd 2))
def h3_law : M Out := par2 4 5 (.v (tupM (consM (rd 2) (consM (rd 3) (consM (tupM (consM (bin2 modD (M.pure (.int 1)) (rd 2)) (consM (M.pure (.int 0)) (M.pure [])))) (consM (tupM (consM (M.pure (.int 0)) (consM (bin2 modD (M.pure (.int 1)) (rd 3)) (M.pure [])))) (M.pure []))))))) (.v (callM 2 d__law_shares2 (consM (rd 2) (consM (rd 3) (M.pure [])))))
def h4_law : M Out := ifM (notM (testB (callM 2 (d__law_alike 8) (consM (M.map (lstM (consM (callM 2 d_grid (consM (rd 2) (consM (rd 3) (M.pure [])))) (consM (callM 2 d_shares (consM (rd 2) (consM (rd 3) (M.pure [])))) (M.pure [])))) Co.d) (consM (M.map (lstM (consM (rd 4) (consM (M.bind (consM (rd 5) (M.pure [])) fun ds => M.lift (tupleD ds)) (M.pure [])))) Co.d) (M.pure [])))))) (retM (M.pure (.bl false))) (M.pure .nx)
def h5_law : M Out := forM (.tp [6, 7]) (seqM (rd 5)) (l_law_0)
def h6_law : M Out := ifM (notM (testB (callM 2 (d__law_alike 8) (consM (callM 1 d_numbers (consM (rd 4) (M.pure []))) (consM (M.bind (consM (M.map (lcM [6, 7] (.tp [6, 7]) (seqM (rd 5)) (M.pure true) (e_law_0)) Co.d) (M.pure [])) fun ds => M.lift (tupleD ds)) (M.pure [])))))) (retM (M.pure (.bl false))) (M.pure .nx)
def h7_law : M Out := ifM (bin2 neD (callM 1 d_count_rounds (consM (rd 4) (M.pure []))) (M.bind (oneM (M.map (lcM [6, 7] (.tp [6, 7]) (seqM (rd 5)) (M.pure true) (e_law_1)) Co.d)) fun ds => M.lift (onInts (fun ns => some (.int ns.sum)) ds))) (retM (M.pure (.bl false))) (M.pure .nx)
def h8_law : M Out := par2 8 9 (.v (bin2 addD (M.pure (.int 1)) (lendM 1 2 d__law_taken (consM (M.pure (.int 12)) (M.pure []))))) (.c (lstM (M.pure [])))
def h9_law : M Out := forM (.nm 10) (rngM rng2 (consM (M.pure (.int 1)) (consM (bin2 addD (rd 8) (M.pure (.int 1))) (M.pure [])))) (l_law_1)
def h10_law : M Out := ifM (notM (testB (callM 2 (d__law_alike 8) (consM (callM 1 d_round_grids (consM (rd 8) (M.pure []))) (consM (M.bind (consM (rd 9) (M.pure [])) fun ds => M.lift (tupleD ds)) (M.pure [])))))) (retM (M.pure (.bl false))) (M.pure .nx)
def h11_law : M Out := setM 13 (lendM 1 2 d__law_pick (consM (M.map (lstM (consM (M.pure .non) (consM (M.pure (.int 0)) (consM (M.pure (.int 13)) (consM (M.pure (.bl true)) (consM (M.pure (.str "2")) (M.pure []))))))) Co.d) (M.pure [])))
def head_law : M Out := (seqS h0_law (seqS h1_law (seqS h2_law (seqS h3_law (seqS h4_law (seqS h5_law (seqS h6_law (seqS h7_law (seqS h8_law (seqS h9_law (seqS h10_law h11_law)))))))))))
def m0_lam : M D := callM 2 d_grid (consM (rd 0) (consM (M.pure (.int 2)) (M.pure [])))
def m1_lam : M D := callM 2 d_grid (consM (M.pure (.int 2)) (consM (rd 1) (M.pure [])))
def m2_lam : M D := callM 2 d_shares (consM (rd 1) (consM (M.pure .non) (M.pure [])))
def m3_lam : M D := callM 2 d_shares (consM (M.pure (.int 3)) (consM (rd 1) (M.pure [])))
def m4_lam : M D := callM 2 d_grid (consM (M.pure (.int 1)) (consM (M.pure (.int 1)) (M.pure [])))
def m5_lam : M D := callM 2 d_shares (consM (M.pure (.int 1)) (consM (M.pure (.int 1)) (M.pure [])))
def m6_lam : M D := callM 1 d_round_grids (consM (rd 1) (M.pure []))
end K04

namespace K04
open PySem PySem.Spec PyProof.Rows L2 Dn
abbrev topS (i : Nat) : Stmt := (PySem.Challenge.pw_roundstreets_k05_whole_grids.main.body)[i]?.getD (.Pass ⟨0, 0, 0, 0⟩)
structure Bi (mg : Str → Option Value) : Prop where
  LONGEST_SIDE : ∃ t, mg "LONGEST_SIDE" = some (.int 12 t)
  ValueError : mg "ValueError" = none
  bool : mg "bool" = none
  comb : mg "comb" = some (.builtin "math.comb")
  gcd : mg "gcd" = some (.builtin "math.gcd")
  int : mg "int" = none
  isinstance : mg "isinstance" = none
  lcm : mg "lcm" = some (.builtin "math.lcm")
  len : mg "len" = none
  list : mg "list" = none
  max : mg "max" = none
  range : mg "range" = none
  str : mg "str" = none
  sum : mg "sum" = none
  tuple : mg "tuple" = none
section
variable {P : Program} {w : World} {K : PySem.W.Frag} {mg : Str → Option Value} {base : Heap} {ex : Nat → Value}
abbrev s_is_number : Stmt := topS 8
abbrev N_is_number : List Str := ["value", "low", "high"]
theorem sc_is_number : FnScope N_is_number ["value", "low", "high"] (defScope s_is_number) := ⟨rfl, rfl, rfl, by decide +kernel, rfl, by decide +kernel, by decide +kernel⟩
theorem ok_is_number (d : DefAt K mg "is_number" s_is_number ["value", "low", "high"]) (B : Bi mg)    : Df true P w K mg base "is_number" 3 2 (spD K ex 3 d_is_number) := by
  exact df_D d sc_is_number (by decide) fun f cdv A outer s H E pn G hex c => es_one (es_ret (ei_and (ei_isi .int c B.isinstance B.int (ei_var (i := 0))) (ei_and (ei_not (ei_isi .bool c B.isinstance B.bool (ei_var (i := 0)))) (ei_one (ei_chainLe c (ei_var (i := 1)) (ei_var (i := 0)) (ei_var (i := 2)))))))
abbrev s_is_pair : Stmt := topS 9
abbrev N_is_pair : List Str := ["value", "width", "height"]
theorem sc_is_pair : FnScope N_is_pair ["value", "width", "height"] (defScope s_is_pair) := ⟨rfl, rfl, rfl, by decide +kernel, rfl, by decide +kernel, by decide +kernel⟩
theorem ok_is_pair (d : DefAt K mg "is_pair" s_is_pair ["value", "width", "height"]) (B : Bi mg) (h_is_number : Df true P w K mg base "is_number" 3 2 (spD K ex 3 d_is_number))   : Df true P w K mg base "is_pair" 3 3 (spD K ex 3 d_is_pair) := by
  exact df_D d sc_is_pair (by decide) fun f cdv A outer s H E pn G hex c => es_cons (es_if (PW.pt (ew_or (et_not (et_val (ei_isi .tuple c B.isinstance B.tuple (ei_var (i := 0))))) (ew_or1 (et_ne c (ei_len c B.len (ek_var (i := 0))) (PE.now (ei_int)))))) (es_one (es_ret (ei_bl))) (es_nil)) (es_one (es_ret (ei_and (ei_call c h_is_number (ea_cons (ei_ixAt (i := 0) c (ei_int)) (ea_cons (ei_int) (ea_cons (ei_sub c (ei_var (i := 1)) (ei_int)) (ea_nil)))) hex (by decide)) (ei_one (ei_call c h_is_number (ea_cons (ei_ixAt (i := 0) c (ei_int)) (ea_cons (ei_int) (ea_cons (ei_sub c (ei_var (i := 2)) (ei_int)) (ea_nil)))) hex (by decide))))))
abbrev s_are_sides : Stmt := topS 10
abbrev N_are_sides : List Str := ["width", "height"]
theorem sc_are_sides : FnScope N_are_sides ["width", "height"] (defScope s_are_sides) := ⟨rfl, rfl, rfl, by decide +kernel, rfl, by decide +kernel, by decide +kernel⟩
theorem ok_are_sides (d : DefAt K mg "are_sides" s_are_sides ["width", "height"]) (B : Bi mg) (h_is_number : Df true P w K mg base "is_number" 3 2 (spD K ex 3 d_is_number))   : Df true P w K mg base "are_sides" 2 3 (spD K ex 2 d_are_sides) := by
  obtain ⟨t_LONGEST_SIDE, e_LONGEST_SIDE⟩ := B.LONGEST_SIDE
  exact df_D d sc_are_sides (by decide) fun f cdv A outer s H E pn G hex c => es_cons (es_if (PW.pt (ew_or (et_not (et_val (ei_call c h_is_number (ea_cons (ei_var (i := 0)) (ea_cons (ei_int) (ea_cons (ei_gint e_LONGEST_SIDE) (ea_nil)))) hex (by decide)))) (ew_or1 (et_not (et_val (ei_call c h_is_number (ea_cons (ei_var (i := 1)) (ea_cons (ei_int) (ea_cons (ei_gint e_LONGEST_SIDE) (ea_nil)))) hex (by decide))))))) (es_one (es_ret (ei_bl))) (es_nil)) (es_one (es_ret (ei_or (ei_gt c (ei_var (i := 0)) (PE.now (ei_int))) (ei_one (ei_gt c (ei_var (i := 1)) (PE.now (ei_int)))))))
abbrev s_wrong_part : Stmt := topS 11
abbrev N_wrong_part : List Str := ["value", "width", "height", "first", "second"]
theorem sc_wrong_part : FnScope N_wrong_part ["value"] (defScope s_wrong_part) := ⟨rfl, rfl, rfl, by decide +kernel, rfl, by decide +kernel, by decide +kernel⟩
theorem ok_wrong_part (d : DefAt K mg "wrong_part" s_wrong_part ["value"]) (B : Bi mg) (h_are_sides : Df true P w K mg base "are_sides" 2 3 (spD K ex 2 d_are_sides)) (h_is_pair : Df true P w K mg base "is_pair" 3 3 (spD K ex 3 d_is_pair))   : Df true P w K mg base "wrong_part" 1 4 (spD K ex 1 d_wrong_part) := by
  exact df_D d sc_wrong_part (by decide) fun f cdv A outer s H E pn G hex c => es_cons (es_if (PW.pt (ew_or (et_not (et_val (ei_isi .tuple c B.isinstance B.tuple (ei_var (i := 0))))) (ew_or1 (et_ne c (ei_len c B.len (ek_var (i := 0))) (PE.now (ei_int)))))) (es_one (es_ret (ei_str))) (es_nil)) (es_cons (es_tgt (ei_var (i := 0)) (eg_tup c (egs_cons (i := 1) c (egs_cons (i := 2) c (egs_cons (i := 3) c (egs_cons (i := 4) c (egs_nil))))))) (es_cons (es_if (et_not (et_val (ei_call c h_are_sides (ea_cons (ei_var (i := 1)) (ea_cons (ei_var (i := 2)) (ea_nil))) hex (by decide)))) (es_one (es_ret (ei_str))) (es_nil)) (es_cons (es_if (PW.pt (ew_or (et_not (et_val (ei_call c h_is_pair (ea_cons (ei_var (i := 3)) (ea_cons (ei_var (i := 1)) (ea_cons (ei_var (i := 2)) (ea_nil)))) hex (by decide)))) (ew_or1 (et_not (et_val (ei_call c h_is_pair (ea_cons (ei_var (i := 4)) (ea_cons (ei_var (i := 1)) (ea_cons (ei_var (i := 2)) (ea_nil)))) hex (by decide))))))) (es_one (es_ret (ei_str))) (es_nil)) (es_cons (es_if (et_eq c (ei_var (i := 3)) (ek_var (i := 4))) (es_one (es_ret (ei_str))) (es_nil)) (es_one (es_ret (ei_non)))))))
abbrev s_check_town : Stmt := topS 12
abbrev N_check_town : List Str := ["town", "part"]
theorem sc_check_town : FnScope N_check_town ["town"] (defScope s_check_town) := ⟨rfl, rfl, rfl, by decide +kernel, rfl, by decide +kernel, by decide +kernel⟩
theorem ok_check_town (d : DefAt K mg "check_town" s_check_town ["town"]) (B : Bi mg) (h_wrong_part : Df true P w K mg base "wrong_part" 1 4 (spD K ex 1 d_wrong_part))   : Df true P w K mg base "check_town" 1 5 (spD K ex 1 d_check_town) := by
  exact df_D d sc_check_town (by decide) fun f cdv A outer s H E pn G hex c => es_cons (es_set (i := 1) c (ei_call c h_wrong_part (ea_cons (ei_var (i := 0)) (ea_nil)) hex (by decide))) (es_one (es_if (et_isnt c (ei_var (i := 1)) (PE.now (ei_non))) (es_one (es_never)) (es_nil)))
abbrev s_check_crossing : Stmt := topS 13
abbrev N_check_crossing : List Str := ["town", "crossing"]
theorem sc_check_crossing : FnScope N_check_crossing ["town", "crossing"] (defScope s_check_crossing) := ⟨rfl, rfl, rfl, by decide +kernel, rfl, by decide +kernel, by decide +kernel⟩
theorem ok_check_crossing (d : DefAt K mg "check_crossing" s_check_crossing ["town", "crossing"]) (B : Bi mg) (h_is_pair : Df true P w K mg base "is_pair" 3 3 (spD K ex 3 d_is_pair))  (x_BadCrossing : ExcAt K mg ex "BadCrossing" 2) : Df true P w K mg base "check_crossing" 2 4 (spD K ex 2 d_check_crossing) := by
  exact df_D d sc_check_crossing (by decide) fun f cdv A outer s H E pn G hex c => es_one (es_if (et_not (et_val (ei_call c h_is_pair (ea_cons (ei_var (i := 1)) (ea_cons (ei_ixAt (i := 0) c (ei_int)) (ea_cons (ei_ixAt (i := 0) c (ei_int)) (ea_nil)))) hex (by decide)))) (es_one (es_raise c x_BadCrossing hex)) (es_nil))
abbrev s_added : Stmt := topS 14
abbrev N_added : List Str := ["town", "one", "other"]
theorem sc_added : FnScope N_added ["town", "one", "other"] (defScope s_added) := ⟨rfl, rfl, rfl, by decide +kernel, rfl, by decide +kernel, by decide +kernel⟩
theorem ok_added (d : DefAt K mg "added" s_added ["town", "one", "other"]) (B : Bi mg)    : Df true P w K mg base "added" 3 2 (spD K ex 3 d_added) := by
  exact df_D d sc_added (by decide) fun f cdv A outer s H E pn G hex c => es_one (es_ret (ei_tup (ea_cons (ei_mod c (ei_add c (ei_ixAt (i := 1) c (ei_int)) (ei_ixAt (i := 2) c (ei_int))) (ei_ixAt (i := 0) c (ei_int))) (ea_cons (ei_mod c (ei_add c (ei_ixAt (i := 1) c (ei_int)) (ei_ixAt (i := 2) c (ei_int))) (ei_ixAt (i := 0) c (ei_int))) (ea_nil)))))
abbrev s_steps_difference : Stmt := topS 15
abbrev N_steps_difference : List Str := ["town", "width", "height", "first", "second"]
theorem sc_steps_difference : FnScope N_steps_difference ["town"] (defScope s_steps_difference) := ⟨rfl, rfl, rfl, by decide +kernel, rfl, by decide +kernel, by decide +kernel⟩
theorem ok_steps_difference (d : DefAt K mg "steps_difference" s_steps_difference ["town"]) (B : Bi mg)    : Df true P w K mg base "steps_difference" 1 2 (spD K ex 1 d_steps_difference) := by
  exact df_D d sc_steps_difference (by decide) fun f cdv A outer s H E pn G hex c => es_cons (es_tgt (ei_var (i := 0)) (eg_tup c (egs_cons (i := 1) c (egs_cons (i := 2) c (egs_cons (i := 3) c (egs_cons (i := 4) c (egs_nil))))))) (es_one (es_ret (ei_tup (ea_cons (ei_mod c (ei_sub c (ei_ixAt (i := 3) c (ei_int)) (ei_ixAt (i := 4) c (ei_int))) (ei_var (i := 1))) (ea_cons (ei_mod c (ei_sub c (ei_ixAt (i := 3) c (ei_int)) (ei_ixAt (i := 4) c (ei_int))) (ei_var (i := 2))) (ea_nil))))))
abbrev s_ends : Stmt := topS 16
abbrev N_ends : List Str := ["town", "crossing"]
theorem sc_ends : FnScope N_ends ["town", "crossing"] (defScope s_ends) := ⟨rfl, rfl, rfl, by decide +kernel, rfl, by decide +kernel, by decide +kernel⟩
theorem ok_ends (d : DefAt K mg "ends" s_ends ["town", "crossing"]) (B : Bi mg) (h_check_town : Df true P w K mg base "check_town" 1 5 (spD K ex 1 d_check_town)) (h_check_crossing : Df true P w K mg base "check_crossing" 2 4 (spD K ex 2 d_check_crossing)) (h_added : Df true P w K mg base "added" 3 2 (spD K ex 3 d_added))   : Df true P w K mg base "ends" 2 6 (spD K ex 2 d_ends) := by
  exact df_D d sc_ends (by decide) fun f cdv A outer s H E pn G hex c => es_cons (es_expr (ei_call c h_check_town (ea_cons (ei_var (i := 0)) (ea_nil)) hex (by decide))) (es_cons (es_expr (ei_call c h_check_crossing (ea_cons (ei_var (i := 0)) (ea_cons (ei_var (i := 1)) (ea_nil))) hex (by decide))) (es_one (es_ret (ei_tup (ea_cons (ei_call c h_added (ea_cons (ei_var (i := 0)) (ea_cons (ei_var (i := 1)) (ea_cons (ei_ixAt (i := 0) c (ei_int)) (ea_nil)))) hex (by decide)) (ea_cons (ei_call c h_added (ea_cons (ei_var (i := 0)) (ea_cons (ei_var (i := 1)) (ea_cons (ei_ixAt (i := 0) c (ei_int)) (ea_nil)))) hex (by decide)) (ea_nil)))))))
abbrev s_order : Stmt := topS 17
abbrev N_order : List Str := ["town", "crossing", "width", "height"]
theorem sc_order : FnScope N_order ["town", "crossing"] (defScope s_order) := ⟨rfl, rfl, rfl, by decide +kernel, rfl, by decide +kernel, by decide +kernel⟩
theorem ok_order (d : DefAt K mg "order" s_order ["town", "crossing"]) (B : Bi mg) (h_check_town : Df true P w K mg base "check_town" 1 5 (spD K ex 1 d_check_town)) (h_check_crossing : Df true P w K mg base "check_crossing" 2 4 (spD K ex 2 d_check_crossing))   : Df true P w K mg base "order" 2 6 (spD K ex 2 d_order) := by
  exact df_D d sc_order (by decide) fun f cdv A outer s H E pn G hex c => es_cons (es_expr (ei_call c h_check_town (ea_cons (ei_var (i := 0)) (ea_nil)) hex (by decide))) (es_cons (es_expr (ei_call c h_check_crossing (ea_cons (ei_var (i := 0)) (ea_cons (ei_var (i := 1)) (ea_nil))) hex (by decide))) (es_cons (es_par2 (i := 2) (j := 3) (P := (.v (ixAt 0 (M.pure (.int 0))))) (Q := (.v (ixAt 0 (M.pure (.int 1))))) c (ei_ixAt (i := 0) c (ei_int)) (ei_ixAt (i := 0) c (ei_int))) (es_one (es_ret (ei_lcm c B.lcm (ea_cons (ei_div c (ei_var (i := 2)) (ei_gcd c B.gcd (ea_cons (ei_var (i := 2)) (ea_cons (ei_ixAt (i := 1) c (ei_int)) (ea_nil))))) (ea_cons (ei_div c (ei_var (i := 3)) (ei_gcd c B.gcd (ea_cons (ei_var (i := 3)) (ea_cons (ei_ixAt (i := 1) c (ei_int)) (ea_nil))))) (ea_nil))))))))
abbrev s_is_whole : Stmt := topS 18
abbrev N_is_whole : List Str := ["town", "reached", "waiting", "crossing", "end"]
theorem sc_is_whole : FnScope N_is_whole ["town"] (defScope s_is_whole) := ⟨rfl, rfl, rfl, by decide +kernel, rfl, by decide +kernel, by decide +kernel⟩
theorem ok_is_whole (d : DefAt K mg "is_whole" s_is_whole ["town"]) (B : Bi mg) (h_check_town : Df true P w K mg base "check_town" 1 5 (spD K ex 1 d_check_town)) (h_ends : Df true P w K mg base "ends" 2 6 (spD K ex 2 d_ends))   : Df true P w K mg base "is_whole" 1 7 (spD K ex 1 d_is_whole) := by
  exact df_D d sc_is_whole (by decide) fun f cdv A outer s H E pn G hex c => es_cons (es_expr (ei_call c h_check_town (ea_cons (ei_var (i := 0)) (ea_nil)) hex (by decide))) (es_cons (es_own (i := 1) c (en_disp1 c (ei_tup (ea_cons (ei_int) (ea_cons (ei_int) (ea_nil)))) (ei_bl) (a := .tup [.int 0, .int 0]) (d := .bl true) (ks := [Sum.inl 0, Sum.inl 0]) (fun _ => rfl) (fun _ => rfl) rfl)) (es_cons (es_own (i := 2) c (en_lst (ea_cons (ei_tup (ea_cons (ei_int) (ea_cons (ei_int) (ea_nil)))) (ea_nil)))) (es_cons (es_while c (passes_of rfl) (et_tru c (ek_var (i := 2))) (es_cons (es_set (i := 3) c (ei_pop (i := 2) c)) (es_one (es_for c (passes_of rfl) (ew_seq c (ei_call c h_ends (ea_cons (ei_var (i := 0)) (ea_cons (ei_var (i := 3)) (ea_nil))) hex (by decide))) (eg_nm (i := 4) c) (es_one (es_if (et_ni c (ei_var (i := 4)) (ek_var (i := 1))) (es_cons (es_put (i := 1) c (ei_var (i := 4)) (ei_bl)) (es_one (es_expr (ei_append (i := 2) c (ei_var (i := 4)))))) (es_nil))))))) (es_one (es_ret (ei_eq c (ei_len c B.len (ek_var (i := 1))) (PE.now (ei_mul c (ei_ixAt (i := 0) c (ei_int)) (ei_ixAt (i := 0) c (ei_int))))))))))
abbrev s_count_lots : Stmt := topS 19
abbrev N_count_lots : List Str := ["town"]
theorem sc_count_lots : FnScope N_count_lots ["town"] (defScope s_count_lots) := ⟨rfl, rfl, rfl, by decide +kernel, rfl, by decide +kernel, by decide +kernel⟩
theorem ok_count_lots (d : DefAt K mg "count_lots" s_count_lots ["town"]) (B : Bi mg) (h_order : Df true P w K mg base "order" 2 6 (spD K ex 2 d_order)) (h_steps_difference : Df true P w K mg base "steps_difference" 1 2 (spD K ex 1 d_steps_difference))   : Df true P w K mg base "count_lots" 1 7 (spD K ex 1 d_count_lots) := by
  exact df_D d sc_count_lots (by decide) fun f cdv A outer s H E pn G hex c => es_one (es_ret (ei_div c (ei_mul c (ei_ixAt (i := 0) c (ei_int)) (ei_ixAt (i := 0) c (ei_int))) (ei_call c h_order (ea_cons (ei_var (i := 0)) (ea_cons (ei_call c h_steps_difference (ea_cons (ei_var (i := 0)) (ea_nil)) hex (by decide)) (ea_nil))) hex (by decide))))
abbrev s_check_sides : Stmt := topS 21
abbrev N_check_sides : List Str := ["width", "height"]
theorem sc_check_sides : FnScope N_check_sides ["width", "height"] (defScope s_check_sides) := ⟨rfl, rfl, rfl, by decide +kernel, rfl, by decide +kernel, by decide +kernel⟩
theorem ok_check_sides (d : DefAt K mg "check_sides" s_check_sides ["width", "height"]) (B : Bi mg) (h_are_sides : Df true P w K mg base "are_sides" 2 3 (spD K ex 2 d_are_sides))  (x_BadNumber : ExcAt K mg ex "BadNumber" 5) : Df true P w K mg base "check_sides" 2 4 (spD K ex 2 d_check_sides) := by
  exact df_D d sc_check_sides (by decide) fun f cdv A outer s H E pn G hex c => es_one (es_if (et_not (et_val (ei_call c h_are_sides (ea_cons (ei_var (i := 0)) (ea_cons (ei_var (i := 1)) (ea_nil))) hex (by decide)))) (es_one (es_raise c x_BadNumber hex)) (es_nil))
abbrev s_grid : Stmt := topS 22
abbrev N_grid : List Str := ["width", "height"]
theorem sc_grid : FnScope N_grid ["width", "height"] (defScope s_grid) := ⟨rfl, rfl, rfl, by decide +kernel, rfl, by decide +kernel, by decide +kernel⟩
theorem ok_grid (d : DefAt K mg "grid" s_grid ["width", "height"]) (B : Bi mg) (h_check_sides : Df true P w K mg base "check_sides" 2 4 (spD K ex 2 d_check_sides))   : Df true P w K mg base "grid" 2 5 (spD K ex 2 d_grid) := by
  exact df_D d sc_grid (by decide) fun f cdv A outer s H E pn G hex c => es_cons (es_expr (ei_call c h_check_sides (ea_cons (ei_var (i := 0)) (ea_cons (ei_var (i := 1)) (ea_nil))) hex (by decide))) (es_one (es_ret (ei_tup (ea_cons (ei_var (i := 0)) (ea_cons (ei_var (i := 1)) (ea_cons (ei_tup (ea_cons (ei_mod c (ei_int) (ei_var (i := 0))) (ea_cons (ei_int) (ea_nil)))) (ea_cons (ei_tup (ea_cons (ei_int) (ea_cons (ei_mod c (ei_int) (ei_var (i := 1))) (ea_nil)))) (ea_nil))))))))
abbrev s_shares : Stmt := topS 23
abbrev N_shares : List Str := ["width", "height", "many", "east"]
theorem sc_shares : FnScope N_shares ["width", "height"] (defScope s_shares) := ⟨rfl, rfl, rfl, by decide +kernel, rfl, by decide +kernel, by decide +kernel⟩
theorem ok_shares (d : DefAt K mg "shares" s_shares ["width", "height"]) (B : Bi mg) (h_check_sides : Df true P w K mg base "check_sides" 2 4 (spD K ex 2 d_check_sides))   : Df true P w K mg base "shares" 2 5 (spD K ex 2 d_shares) := by
  exact df_D d sc_shares (by decide) fun f cdv A outer s H E pn G hex c => es_cons (es_expr (ei_call c h_check_sides (ea_cons (ei_var (i := 0)) (ea_cons (ei_var (i := 1)) (ea_nil))) hex (by decide))) (es_cons (es_set (i := 2) c (ei_gcd c B.gcd (ea_cons (ei_var (i := 0)) (ea_cons (ei_var (i := 1)) (ea_nil))))) (es_one (es_ret (ei_tuple c B.tuple (PE.settled (en_lc c (ew_range1 B.range (ea_cons (ei_add c (ei_var (i := 2)) (ei_int)) (ea_nil))) (blkOk_by (own := [("east", 3)]) (N := N_shares) (sc := (defScope s_shares)) (by decide +kernel)) rfl (by decide) (fun s H C cl fp c => eg_nm (i := 3) c) (fun s H C cl fp c => ets_one (PW.pt (ew_and (et_eq c (ei_gcd c B.gcd (ea_cons (ei_var (i := 3)) (ea_cons (ei_var (i := 0)) (ea_nil)))) (PE.now (ei_int))) (ew_and1 (et_eq c (ei_gcd c B.gcd (ea_cons (ei_sub c (ei_var (i := 2)) (ei_var (i := 3))) (ea_cons (ei_var (i := 1)) (ea_nil)))) (PE.now (ei_int))))))) (fun s H C cl fp c => ei_tup (ea_cons (ei_var (i := 3)) (ea_cons (ei_sub c (ei_var (i := 2)) (ei_var (i := 3))) (ea_nil))))))))))
abbrev s_round_grids : Stmt := topS 24
abbrev N_round_grids : List Str := ["most", "width", "height"]
theorem sc_round_grids : FnScope N_round_grids ["most"] (defScope s_round_grids) := ⟨rfl, rfl, rfl, by decide +kernel, rfl, by decide +kernel, by decide +kernel⟩
theorem ok_round_grids (d : DefAt K mg "round_grids" s_round_grids ["most"]) (B : Bi mg) (h_is_number : Df true P w K mg base "is_number" 3 2 (spD K ex 3 d_is_number)) (h_are_sides : Df true P w K mg base "are_sides" 2 3 (spD K ex 2 d_are_sides)) (h_shares : Df true P w K mg base "shares" 2 5 (spD K ex 2 d_shares))  (x_BadNumber : ExcAt K mg ex "BadNumber" 5) : Df true P w K mg base "round_grids" 1 6 (spD K ex 1 d_round_grids) := by
  obtain ⟨t_LONGEST_SIDE, e_LONGEST_SIDE⟩ := B.LONGEST_SIDE
  exact df_D d sc_round_grids (by decide) fun f cdv A outer s H E pn G hex c => es_cons (es_if (et_not (et_val (ei_call c h_is_number (ea_cons (ei_var (i := 0)) (ea_cons (ei_int) (ea_cons (ei_gint e_LONGEST_SIDE) (ea_nil)))) hex (by decide)))) (es_one (es_raise c x_BadNumber hex)) (es_nil)) (es_one (es_ret (ei_tuple c B.tuple (PE.settled (en_lc2 c (ew_range2 B.range (ea_cons (ei_int) (ea_cons (ei_add c (ei_var (i := 0)) (ei_int)) (ea_nil)))) (blkOk_by (own := [("width", 1), ("height", 2)]) (N := N_round_grids) (sc := (defScope s_round_grids)) (by decide +kernel)) rfl (by decide) (by decide) (by decide) (fun s H C cl fp c => eg_nm (i := 1) c) (fun s H C cl fp c => ets_nil) (fun s H C cl fp c => ew_range2 B.range (ea_cons (ei_int) (ea_cons (ei_add c (ei_var (i := 0)) (ei_int)) (ea_nil)))) (fun s H C cl fp c => eg_nm (i := 2) c) (fun s H C cl fp c => ets_one (PW.pt (ew_and (et_val (ei_call c h_are_sides (ea_cons (ei_var (i := 1)) (ea_cons (ei_var (i := 2)) (ea_nil))) hex (by decide))) (ew_and1 (et_ne c (ei_call c h_shares (ea_cons (ei_var (i := 1)) (ea_cons (ei_var (i := 2)) (ea_nil))) hex (by decide)) (PE.now (ei_tup (ea_nil)))))))) (fun s H C cl fp c => ei_tup (ea_cons (ei_var (i := 1)) (ea_cons (ei_var (i := 2)) (ea_nil)))))))))
abbrev s_multiple : Stmt := topS 26
abbrev N_multiple : List Str := ["town", "crossing", "times"]
theorem sc_multiple : FnScope N_multiple ["town", "crossing", "times"] (defScope s_multiple) := ⟨rfl, rfl, rfl, by decide +kernel, rfl, by decide +kernel, by decide +kernel⟩
theorem ok_multiple (d : DefAt K mg "multiple" s_multiple ["town", "crossing", "times"]) (B : Bi mg)    : Df true P w K mg base "multiple" 3 2 (spD K ex 3 d_multiple) := by
  exact df_D d sc_multiple (by decide) fun f cdv A outer s H E pn G hex c => es_one (es_ret (ei_tup (ea_cons (ei_mod c (ei_mul c (ei_var (i := 2)) (ei_ixAt (i := 1) c (ei_int))) (ei_ixAt (i := 0) c (ei_int))) (ea_cons (ei_mod c (ei_mul c (ei_var (i := 2)) (ei_ixAt (i := 1) c (ei_int))) (ei_ixAt (i := 0) c (ei_int))) (ea_nil)))))
abbrev s_rings_made : Stmt := topS 27
abbrev N_rings_made : List Str := ["town", "many", "moved"]
theorem sc_rings_made : FnScope N_rings_made ["town", "many"] (defScope s_rings_made) := ⟨rfl, rfl, rfl, by decide +kernel, rfl, by decide +kernel, by decide +kernel⟩
theorem ok_rings_made (d : DefAt K mg "rings_made" s_rings_made ["town", "many"]) (B : Bi mg) (h_added : Df true P w K mg base "added" 3 2 (spD K ex 3 d_added)) (h_multiple : Df true P w K mg base "multiple" 3 2 (spD K ex 3 d_multiple)) (h_count_lots : Df true P w K mg base "count_lots" 1 7 (spD K ex 1 d_count_lots)) (h_order : Df true P w K mg base "order" 2 6 (spD K ex 2 d_order)) (h_steps_difference : Df true P w K mg base "steps_difference" 1 2 (spD K ex 1 d_steps_difference))   : Df true P w K mg base "rings_made" 2 8 (spD K ex 2 d_rings_made) := by
  exact df_D d sc_rings_made (by decide) fun f cdv A outer s H E pn G hex c => es_cons (es_set (i := 2) c (ei_call c h_added (ea_cons (ei_var (i := 0)) (ea_cons (ei_call c h_multiple (ea_cons (ei_var (i := 0)) (ea_cons (ei_ixAt (i := 0) c (ei_int)) (ea_cons (ei_var (i := 1)) (ea_nil)))) hex (by decide)) (ea_cons (ei_call c h_multiple (ea_cons (ei_var (i := 0)) (ea_cons (ei_ixAt (i := 0) c (ei_int)) (ea_cons (ei_sub c (ei_call c h_count_lots (ea_cons (ei_var (i := 0)) (ea_nil)) hex (by decide)) (ei_var (i := 1))) (ea_nil)))) hex (by decide)) (ea_nil)))) hex (by decide))) (es_one (es_ret (ei_div c (ei_call c h_order (ea_cons (ei_var (i := 0)) (ea_cons (ei_call c h_steps_difference (ea_cons (ei_var (i := 0)) (ea_nil)) hex (by decide)) (ea_nil))) hex (by decide)) (ei_call c h_order (ea_cons (ei_var (i := 0)) (ea_cons (ei_var (i := 2)) (ea_nil))) hex (by decide)))))
abbrev s_numbers : Stmt := topS 29
abbrev N_numbers : List Str := ["town", "many"]
theorem sc_numbers : FnScope N_numbers ["town"] (defScope s_numbers) := ⟨rfl, rfl, rfl, by decide +kernel, rfl, by decide +kernel, by decide +kernel⟩
theorem ok_numbers (d : DefAt K mg "numbers" s_numbers ["town"]) (B : Bi mg) (h_check_town : Df true P w K mg base "check_town" 1 5 (spD K ex 1 d_check_town)) (h_is_whole : Df true P w K mg base "is_whole" 1 7 (spD K ex 1 d_is_whole)) (h_count_lots : Df true P w K mg base "count_lots" 1 7 (spD K ex 1 d_count_lots)) (h_rings_made : Df true P w K mg base "rings_made" 2 8 (spD K ex 2 d_rings_made))   : Df true P w K mg base "numbers" 1 9 (spD K ex 1 d_numbers) := by
  exact df_D d sc_numbers (by decide) fun f cdv A outer s H E pn G hex c => es_cons (es_expr (ei_call c h_check_town (ea_cons (ei_var (i := 0)) (ea_nil)) hex (by decide))) (es_cons (es_if (et_not (et_val (ei_call c h_is_whole (ea_cons (ei_var (i := 0)) (ea_nil)) hex (by decide)))) (es_one (es_ret (ei_tup (ea_nil)))) (es_nil)) (es_one (es_ret (ei_tuple c B.tuple (PE.settled (en_lc c (ew_range1 B.range (ea_cons (ei_add c (ei_call c h_count_lots (ea_cons (ei_var (i := 0)) (ea_nil)) hex (by decide)) (ei_int)) (ea_nil))) (blkOk_by (own := [("many", 1)]) (N := N_numbers) (sc := (defScope s_numbers)) (by decide +kernel)) rfl (by decide) (fun s H C cl fp c => eg_nm (i := 1) c) (fun s H C cl fp c => ets_one (et_eq c (ei_call c h_rings_made (ea_cons (ei_var (i := 0)) (ea_cons (ei_var (i := 1)) (ea_nil))) hex (by decide)) (PE.now (ei_int)))) (fun s H C cl fp c => ei_var (i := 1))))))))
abbrev s_count_rounds : Stmt := topS 30
abbrev N_count_rounds : List Str := ["town", "possible", "most", "many"]
theorem sc_count_rounds : FnScope N_count_rounds ["town"] (defScope s_count_rounds) := ⟨rfl, rfl, rfl, by decide +kernel, rfl, by decide +kernel, by decide +kernel⟩
theorem ok_count_rounds (d : DefAt K mg "count_rounds" s_count_rounds ["town"]) (B : Bi mg) (h_numbers : Df true P w K mg base "numbers" 1 9 (spD K ex 1 d_numbers)) (h_count_lots : Df true P w K mg base "count_lots" 1 7 (spD K ex 1 d_count_lots))   : Df true P w K mg base "count_rounds" 1 10 (spD K ex 1 d_count_rounds) := by
  exact df_D d sc_count_rounds (by decide) fun f cdv A outer s H E pn G hex c => es_cons (es_set (i := 1) c (ei_call c h_numbers (ea_cons (ei_var (i := 0)) (ea_nil)) hex (by decide))) (es_cons (es_set (i := 2) c (ei_call c h_count_lots (ea_cons (ei_var (i := 0)) (ea_nil)) hex (by decide))) (es_one (es_ret (ei_sum c B.sum (PE.settled (en_lc c (ew_seq c (ei_var (i := 1))) (blkOk_by (own := [("many", 3)]) (N := N_count_rounds) (sc := (defScope s_count_rounds)) (by decide +kernel)) rfl (by decide) (fun s H C cl fp c => eg_nm (i := 3) c) (fun s H C cl fp c => ets_nil) (fun s H C cl fp c => ei_comb c B.comb (ea_cons (ei_var (i := 2)) (ea_cons (ei_var (i := 3)) (ea_nil))))))))))
abbrev s__law_taken : Stmt := topS 32
abbrev N__law_taken : List Str := ["row", "many", "found", "cell"]
theorem sc__law_taken : FnScope N__law_taken ["row", "many"] (defScope s__law_taken) := ⟨rfl, rfl, rfl, by decide +kernel, rfl, by decide +kernel, by decide +kernel⟩
theorem ok__law_taken (d : DefAt K mg "_law_taken" s__law_taken ["row", "many"]) (B : Bi mg)    : Df true P w K mg base "_law_taken" 2 2 (spL K ex 2 d__law_taken) := by
  exact df_L d sc__law_taken (by decide) fun f cdv A outer s H E pn G hex c => es_cons (es_if (et_gt c (ei_ixAt (i := 0) c (ei_int)) (PE.now (ei_int))) (es_cons (es_set (i := 2) c (ei_mod c (ei_int1 c B.int (ei_ixAt (i := 0) c (ei_int))) (ei_var (i := 1)))) (es_cons (es_put (i := 0) c (ei_int) (ei_div c (ei_ixAt (i := 0) c (ei_int)) (ei_var (i := 1)))) (es_one (es_ret (ei_var (i := 2)))))) (es_nil)) (es_cons (es_put (i := 0) c (ei_int) (ei_add c (ei_ixAt (i := 0) c (ei_int)) (ei_int))) (es_cons (es_if (et_gt c (ei_ixAt (i := 0) c (ei_int)) (PE.now (ei_len c B.len (PE.now (ei_ixAt (i := 0) c (ei_int)))))) (es_cons (es_put (i := 0) c (ei_int) (ei_mod c (ei_int1 c B.int (ei_add c (ei_mul c (ei_ixAt (i := 0) c (ei_int)) (ei_int)) (ei_int))) (ei_int))) (es_one (es_ret (ei_mod c (ei_int1 c B.int (ei_div c (ei_ixAt (i := 0) c (ei_int)) (ei_int))) (ei_var (i := 1)))))) (es_nil)) (es_cons (es_set (i := 3) c (ei_ix c (ei_ixAt (i := 0) c (ei_int)) (ei_sub c (ei_ixAt (i := 0) c (ei_int)) (ei_int)))) (es_cons (es_put (i := 0) c (ei_int) (ei_mod c (ei_int1 c B.int (ei_add c (ei_add c (ei_mul c (ei_ixAt (i := 0) c (ei_int)) (ei_int)) (ei_var (i := 3))) (ei_int))) (ei_int))) (es_cons (es_if (et_ge c (ei_var (i := 3)) (PE.now (ei_pow c (ei_int) (ei_int)))) (es_one (es_put (i := 0) c (ei_int) (ei_div c (ei_var (i := 3)) (ei_var (i := 1))))) (es_nil)) (es_one (es_ret (ei_mod c (ei_int1 c B.int (ei_var (i := 3))) (ei_var (i := 1))))))))))
abbrev s__law_pick : Stmt := topS 33
abbrev N__law_pick : List Str := ["row", "things"]
theorem sc__law_pick : FnScope N__law_pick ["row", "things"] (defScope s__law_pick) := ⟨rfl, rfl, rfl, by decide +kernel, rfl, by decide +kernel, by decide +kernel⟩
theorem ok__law_pick (d : DefAt K mg "_law_pick" s__law_pick ["row", "things"]) (B : Bi mg) (h_law_taken : Df true P w K mg base "_law_taken" 2 2 (spL K ex 2 d__law_taken))   : Df true P w K mg base "_law_pick" 2 3 (spL K ex 2 d__law_pick) := by
  exact df_L d sc__law_pick (by decide) fun f cdv A outer s H E pn G hex c => es_one (es_ret (ei_ixAt (i := 1) c (ei_lend (i := 0) c h_law_taken (ea_cons (ei_len c B.len (ek_var (i := 1))) (ea_nil)) (hj := (by decide)))))
abbrev s__law_alike : Stmt := topS 34
abbrev N__law_alike : List Str := ["found", "due", "k"]
theorem sc__law_alike : FnScope N__law_alike ["found", "due"] (defScope s__law_alike) := ⟨rfl, rfl, rfl, by decide +kernel, rfl, by decide +kernel, by decide +kernel⟩
theorem ok__law_alike (d : DefAt K mg "_law_alike" s__law_alike ["found", "due"]) (B : Bi mg)    : ∀ n : Nat, Df true P w K mg base "_law_alike" 2 (n + 2) (spD K ex 2 (d__law_alike n))
  | 0 => df_none d
  | n + 1 => by
    have h_rec := ok__law_alike d B  n
    exact df_D d sc__law_alike (by decide) fun f cdv A outer s H E pn G hex c => es_cons (es_if (et_val (ei_isi2 .tuple .list c B.isinstance B.tuple B.list (ei_var (i := 1)))) (es_cons (es_if (PW.pt (ew_or (et_not (et_val (ei_isi2 .tuple .list c B.isinstance B.tuple B.list (ei_var (i := 0))))) (ew_or1 (et_ne c (ei_isi .list c B.isinstance B.list (ei_var (i := 0))) (PE.now (ei_isi .list c B.isinstance B.list (ei_var (i := 1)))))))) (es_one (es_ret (ei_bl))) (es_nil)) (es_cons (es_if (et_ne c (ei_len c B.len (ek_var (i := 0))) (PE.now (ei_len c B.len (ek_var (i := 1))))) (es_one (es_ret (ei_bl))) (es_nil)) (es_one (es_ret (ei_eqNil c (PE.now (PE.settled (en_lc c (ew_range1 B.range (ea_cons (ei_len c B.len (ek_var (i := 1))) (ea_nil))) (blkOk_by (own := [("k", 2)]) (N := N__law_alike) (sc := (defScope s__law_alike)) (by decide +kernel)) rfl (by decide) (fun s H C cl fp c => eg_nm (i := 2) c) (fun s H C cl fp c => ets_one (et_not (et_val (ei_call c h_rec (ea_cons (ei_ixAt (i := 0) c (ei_var (i := 2))) (ea_cons (ei_ixAt (i := 1) c (ei_var (i := 2))) (ea_nil))) hex (Nat.le_refl _))))) (fun s H C cl fp c => ei_var (i := 2)))))))))) (es_nil)) (es_cons (es_if (PW.pt (ew_or (et_is c (ei_var (i := 1)) (PE.now (ei_non))) (ew_or1 (et_val (ei_isi .str c B.isinstance B.str (ei_var (i := 1))))))) (es_one (es_ret (ei_and (ei_eq c (ei_var (i := 0)) (ek_var (i := 1))) (ei_one (ei_eq c (ei_isi .str c B.isinstance B.str (ei_var (i := 0))) (PE.now (ei_isi .str c B.isinstance B.str (ei_var (i := 1))))))))) (es_nil)) (es_one (es_ret (ei_and (ei_isi .int c B.isinstance B.int (ei_var (i := 0))) (ei_and (ei_eq c (ei_isi .bool c B.isinstance B.bool (ei_var (i := 0))) (PE.now (ei_isi .bool c B.isinstance B.bool (ei_var (i := 1))))) (ei_one (ei_eq c (ei_var (i := 0)) (ek_var (i := 1)))))))))
abbrev s__law_led : Stmt := topS 35
abbrev N__law_led : List Str := ["town", "place", "step"]
theorem sc__law_led : FnScope N__law_led ["town", "place", "step"] (defScope s__law_led) := ⟨rfl, rfl, rfl, by decide +kernel, rfl, by decide +kernel, by decide +kernel⟩
theorem ok__law_led (d : DefAt K mg "_law_led" s__law_led ["town", "place", "step"]) (B : Bi mg)    : Df true P w K mg base "_law_led" 3 2 (spD K ex 3 d__law_led) := by
  exact df_D d sc__law_led (by decide) fun f cdv A outer s H E pn G hex c => es_one (es_ret (ei_tup (ea_cons (ei_mod c (ei_add c (ei_ixAt (i := 1) c (ei_int)) (ei_ixAt (i := 2) c (ei_int))) (ei_ixAt (i := 0) c (ei_int))) (ea_cons (ei_mod c (ei_add c (ei_ixAt (i := 1) c (ei_int)) (ei_ixAt (i := 2) c (ei_int))) (ei_ixAt (i := 0) c (ei_int))) (ea_nil)))))
abbrev s__law_row : Stmt := topS 36
abbrev N__law_row : List Str := ["town", "step", "found", "here"]
theorem sc__law_row : FnScope N__law_row ["town", "step"] (defScope s__law_row) := ⟨rfl, rfl, rfl, by decide +kernel, rfl, by decide +kernel, by decide +kernel⟩
theorem ok__law_row (d : DefAt K mg "_law_row" s__law_row ["town", "step"]) (B : Bi mg) (h_law_led : Df true P w K mg base "_law_led" 3 2 (spD K ex 3 d__law_led))   : Df true P w K mg base "_law_row" 2 3 (spD K ex 2 d__law_row) := by
  exact df_D d sc__law_row (by decide) fun f cdv A outer s H E pn G hex c => es_cons (es_par2 (i := 2) (j := 3) (P := (.c (lstM (consM (tupM (consM (M.pure (.int 0)) (consM (M.pure (.int 0)) (M.pure [])))) (M.pure []))))) (Q := (.v (callM 3 d__law_led (consM (rd 0) (consM (tupM (consM (M.pure (.int 0)) (consM (M.pure (.int 0)) (M.pure [])))) (consM (rd 1) (M.pure []))))))) c (en_lst (ea_cons (ei_tup (ea_cons (ei_int) (ea_cons (ei_int) (ea_nil)))) (ea_nil))) (ei_call c h_law_led (ea_cons (ei_var (i := 0)) (ea_cons (ei_tup (ea_cons (ei_int) (ea_cons (ei_int) (ea_nil)))) (ea_cons (ei_var (i := 1)) (ea_nil)))) hex (by decide))) (es_cons (es_while c (passes_of rfl) (et_ne c (ei_var (i := 3)) (PE.now (ei_tup (ea_cons (ei_int) (ea_cons (ei_int) (ea_nil)))))) (es_cons (es_expr (ei_append (i := 2) c (ei_var (i := 3)))) (es_one (es_set (i := 3) c (ei_call c h_law_led (ea_cons (ei_var (i := 0)) (ea_cons (ei_var (i := 3)) (ea_cons (ei_var (i := 1)) (ea_nil)))) hex (by decide)))))) (es_one (es_ret (ei_var (i := 2)))))
abbrev s__law_choose : Stmt := topS 37
abbrev N__law_choose : List Str := ["many", "some", "found", "at"]
theorem sc__law_choose : FnScope N__law_choose ["many", "some"] (defScope s__law_choose) := ⟨rfl, rfl, rfl, by decide +kernel, rfl, by decide +kernel, by decide +kernel⟩
theorem ok__law_choose (d : DefAt K mg "_law_choose" s__law_choose ["many", "some"]) (B : Bi mg)    : Df true P w K mg base "_law_choose" 2 2 (spD K ex 2 d__law_choose) := by
  exact df_D d sc__law_choose (by decide) fun f cdv A outer s H E pn G hex c => es_cons (es_set (i := 2) c (ei_int)) (es_cons (es_for c (passes_of rfl) (ew_range1 B.range (ea_cons (ei_var (i := 1)) (ea_nil))) (eg_nm (i := 3) c) (es_one (es_set (i := 2) c (ei_div c (ei_mul c (ei_var (i := 2)) (ei_sub c (ei_var (i := 0)) (ei_var (i := 3)))) (ei_add c (ei_var (i := 3)) (ei_int)))))) (es_one (es_ret (ei_var (i := 2)))))
abbrev s__law_divisor2 : Stmt := topS 38
abbrev N__law_divisor2 : List Str := ["one", "other", "part"]
theorem sc__law_divisor2 : FnScope N__law_divisor2 ["one", "other"] (defScope s__law_divisor2) := ⟨rfl, rfl, rfl, by decide +kernel, rfl, by decide +kernel, by decide +kernel⟩
theorem ok__law_divisor2 (d : DefAt K mg "_law_divisor" s__law_divisor2 ["one", "other"]) (B : Bi mg)    : Df true P w K mg base "_law_divisor" 2 2 (spD K ex 2 d__law_divisor2) := by
  exact df_D d sc__law_divisor2 (by decide) fun f cdv A outer s H E pn G hex c => es_one (es_ret (ei_maxL c B.max (PE.settled (en_lc c (ew_range2 B.range (ea_cons (ei_int) (ea_cons (ei_add c (ei_max2 c B.max (ea_cons (ei_var (i := 0)) (ea_cons (ei_var (i := 1)) (ea_nil)))) (ei_int)) (ea_nil)))) (blkOk_by (own := [("part", 2)]) (N := N__law_divisor2) (sc := (defScope s__law_divisor2)) (by decide +kernel)) rfl (by decide) (fun s H C cl fp c => eg_nm (i := 2) c) (fun s H C cl fp c => ets_one (et_eq c (ei_add c (ei_mod c (ei_var (i := 0)) (ei_var (i := 2))) (ei_mod c (ei_var (i := 1)) (ei_var (i := 2)))) (PE.now (ei_int)))) (fun s H C cl fp c => ei_var (i := 2))))))
abbrev s__law_shares2 : Stmt := topS 39
abbrev N__law_shares2 : List Str := ["width", "height", "town", "found", "lots", "size", "east"]
theorem sc__law_shares2 : FnScope N__law_shares2 ["width", "height"] (defScope s__law_shares2) := ⟨rfl, rfl, rfl, by decide +kernel, rfl, by decide +kernel, by decide +kernel⟩
theorem ok__law_shares2 (d : DefAt K mg "_law_shares" s__law_shares2 ["width", "height"]) (B : Bi mg) (h_law_divisor : Df true P w K mg base "_law_divisor" 2 2 (spD K ex 2 d__law_divisor2)) (h_law_row : Df true P w K mg base "_law_row" 2 3 (spD K ex 2 d__law_row))   : Df true P w K mg base "_law_shares" 2 4 (spD K ex 2 d__law_shares2) := by
  exact df_D d sc__law_shares2 (by decide) fun f cdv A outer s H E pn G hex c => es_cons (es_par2 (i := 2) (j := 3) (P := (.v (tupM (consM (rd 0) (consM (rd 1) (consM (tupM (consM (bin2 modD (M.pure (.int 1)) (rd 0)) (consM (M.pure (.int 0)) (M.pure [])))) (consM (tupM (consM (M.pure (.int 0)) (consM (bin2 modD (M.pure (.int 1)) (rd 1)) (M.pure [])))) (M.pure [])))))))) (Q := (.c (lstM (M.pure [])))) c (ei_tup (ea_cons (ei_var (i := 0)) (ea_cons (ei_var (i := 1)) (ea_cons (ei_tup (ea_cons (ei_mod c (ei_int) (ei_var (i := 0))) (ea_cons (ei_int) (ea_nil)))) (ea_cons (ei_tup (ea_cons (ei_int) (ea_cons (ei_mod c (ei_int) (ei_var (i := 1))) (ea_nil)))) (ea_nil)))))) (en_lst (ea_nil))) (es_cons (es_par2 (i := 4) (j := 5) (P := (.v (callM 2 d__law_divisor2 (consM (rd 0) (consM (rd 1) (M.pure [])))))) (Q := (.v (bin2 divD (bin2 mulD (rd 0) (rd 1)) (callM 2 d__law_divisor2 (consM (rd 0) (consM (rd 1) (M.pure []))))))) c (ei_call c h_law_divisor (ea_cons (ei_var (i := 0)) (ea_cons (ei_var (i := 1)) (ea_nil))) hex (by decide)) (ei_div c (ei_mul c (ei_var (i := 0)) (ei_var (i := 1))) (ei_call c h_law_divisor (ea_cons (ei_var (i := 0)) (ea_cons (ei_var (i := 1)) (ea_nil))) hex (by decide)))) (es_cons (es_for c (passes_of rfl) (ew_range1 B.range (ea_cons (ei_add c (ei_var (i := 4)) (ei_int)) (ea_nil))) (eg_nm (i := 6) c) (es_one (es_if (et_eq c (ei_len c B.len (PE.now (ei_call c h_law_row (ea_cons (ei_var (i := 2)) (ea_cons (ei_tup (ea_cons (ei_mod c (ei_var (i := 6)) (ei_var (i := 0))) (ea_cons (ei_mod c (ei_sub c (ei_var (i := 4)) (ei_var (i := 6))) (ei_var (i := 1))) (ea_nil)))) (ea_nil))) hex (by decide)))) (ek_var (i := 5))) (es_one (es_expr (ei_append (i := 3) c (ei_tup (ea_cons (ei_var (i := 6)) (ea_cons (ei_sub c (ei_var (i := 4)) (ei_var (i := 6))) (ea_nil))))))) (es_nil)))) (es_one (es_ret (ei_var (i := 3))))))
abbrev s__law_bad : Stmt := topS 40
abbrev N__law_bad : List Str := ["work", "e"]
theorem sc__law_bad : FnScope N__law_bad ["work"] (defScope s__law_bad) := ⟨rfl, rfl, rfl, by decide +kernel, rfl, by decide +kernel, by decide +kernel⟩
theorem ok__law_bad (d : DefAt K mg "_law_bad" s__law_bad ["work"]) (B : Bi mg)   (x_BadNumber : ExcAt K mg ex "BadNumber" 5) (ia : IsAt K ex 5 (.type "ValueError") true) : ∀ j, ∃ fg, mg "_law_bad" = some (.ref fg) ∧ PySem.W.keepIn K (.ref fg) = true ∧ ErrRun P w K mg base ex j (j + 1) fg ⟨5, []⟩ (.bl true) := by
  intro j
  obtain ⟨fg, fd, h1, h2, h3⟩ := d.ex
  refine ⟨fg, h2, h1.kp, fun L di fr vs ds fl lr A outer s H F Q E hr e0 la C nf sF rF q => bad_call (ex := ex) (e := ⟨5, []⟩) (k := j) (gb := fun ρ => some (.ok (.ret (.bl true)) ρ)) h1 h3 sc__law_bad (by decide) (fun cdv A outer s H E G hex c cz la io r => ?_) rfl hr e0 la C nf sF rF q⟩
  exact pss_bad (i := 1) (Kn := fun σ => σ[0]? = some (some (.ref fl))) (e := ⟨5, []⟩) c x_BadNumber ia hex (fun C hC => hit_one x_BadNumber 5 true C hC rfl) (fun pn xe W' c' => es_workK (pe_work (i := 0) c' (Nat.le_refl _) (hex ▸ lr) ⟨cz.at_, cz.nf, cz.nx⟩ la io r rfl (Or.inl rfl))) B.isinstance B.ValueError (fun _ _ => rfl) (fun _ _ => rfl) (fun _ _ => Or.inl rfl) (fun _ _ => rfl) (fun _ _ => rfl)
abbrev s_law : Stmt := topS 41
abbrev N_law : List Str := ["script", "row", "width", "height", "town", "due", "east", "north", "most", "good", "one", "some", "other", "bad", "works", "work"]
theorem sc_law : FnScope N_law ["script"] (defScope s_law) := ⟨rfl, rfl, rfl, by decide +kernel, rfl, by decide +kernel, by decide +kernel⟩
end
def exOf (mg : Str → Option Value) (n : Nat) : Value := (mg ((["TownError", "BadTown", "BadCrossing", "BadTable", "BadChoice", "BadNumber", "NotWhole", "NoStep", "BadText", "BadLine"] : List Str)[n]?.getD "")).getD .none
section
variable {P : Program} {w : World} {K : PySem.W.Frag} {mg : Str → Option Value} {base : Heap} {ex : Nat → Value}
abbrev lamX (t j : Nat) : Expr := lamAt (defBody s_law) (12 + t) j
abbrev kap_0 (X : Cx) (v : V) (d : D) : LK := ⟨lamL X (lamA (lamX 0 0)) (lamB (lamX 0 0)) (lamS (lamX 0 0)), none, ["bad"], [v], [d]⟩
abbrev kap_1 (X : Cx) (v : V) (d : D) : LK := ⟨lamL X (lamA (lamX 0 1)) (lamB (lamX 0 1)) (lamS (lamX 0 1)), (some 0), ["bad"], [v], [d]⟩
abbrev kap_2 (X : Cx) (v : V) (d : D) : LK := ⟨lamL X (lamA (lamX 1 0)) (lamB (lamX 1 0)) (lamS (lamX 1 0)), (some 0), ["bad"], [v], [d]⟩
abbrev kap_3 (X : Cx) (v : V) (d : D) : LK := ⟨lamL X (lamA (lamX 1 1)) (lamB (lamX 1 1)) (lamS (lamX 1 1)), (some 0), ["bad"], [v], [d]⟩
abbrev kap_4 (X : Cx) (v : V) (d : D) : LK := ⟨lamL X (lamA (lamX 2 0)) (lamB (lamX 2 0)) (lamS (lamX 2 0)), none, [], [], []⟩
abbrev kap_5 (X : Cx) (v : V) (d : D) : LK := ⟨lamL X (lamA (lamX 2 1)) (lamB (lamX 2 1)) (lamS (lamX 2 1)), (some 0), [], [], []⟩
abbrev kap_6 (X : Cx) (v : V) (d : D) : LK := ⟨lamL X (lamA (lamX 2 2)) (lamB (lamX 2 2)) (lamS (lamX 2 2)), (some 0), ["bad"], [v], [d]⟩
abbrev ks_law (X : Cx) (v : V) (d : D) : List LK := [kap_0 X v d, kap_1 X v d, kap_2 X v d, kap_3 X v d, kap_4 X v d, kap_5 X v d, kap_6 X v d]
theorem lr_0 {X : Cx} {v : V} {d : D} (h_grid : Df true P w K mg base "grid" 2 5 (spD K ex 2 d_grid)) (hm : ∃ ρ', m0_lam (start0 1 ([d])) = some (.exc ⟨5, []⟩ ρ')) :
    ∀ dV c, LRun P w K mg base ex 11 ((kap_0 X v d).lf dV c) (kap_0 X v d).di (kap_0 X v d).fr (kap_0 X v d).ds ⟨5, []⟩ := by
  intro dV cc A outer s H F f Q E vs hr e0 la C sF r hE
  obtain ⟨ρ', hm⟩ := hm
  exact lam_call (m := m0_lam) (ps := []) (k := 10) (show NdefX.NScope ["bad"] [] ["bad"] (lamS (lamX 0 0)) from NdefX.nscope_by (by decide +kernel)) rfl (fun _ h doc pm ctv => by have h : dV = .none := h; subst h; rfl) (fun i t hi h doc pm ctv => by cases hi) (fun A outer s H E f G hex c => ei_call c h_grid (ea_cons (ei_var (i := 0)) (ea_cons (ei_int) (ea_nil))) hex (by decide)) hr e0 la C sF r hm hE
theorem lr_1 {X : Cx} {v : V} {d : D} (h_grid : Df true P w K mg base "grid" 2 5 (spD K ex 2 d_grid)) (hm : ∃ ρ', m1_lam (start0 2 ([.int 0, d])) = some (.exc ⟨5, []⟩ ρ')) :
    ∀ dV c, LRun P w K mg base ex 11 ((kap_1 X v d).lf dV c) (kap_1 X v d).di (kap_1 X v d).fr (kap_1 X v d).ds ⟨5, []⟩ := by
  intro dV cc A outer s H F f Q E vs hr e0 la C sF r hE
  obtain ⟨ρ', hm⟩ := hm
  exact lam_call (m := m1_lam) (ps := ["a"]) (k := 10) (show NdefX.NScope ["a", "bad"] ["a"] ["bad"] (lamS (lamX 0 1)) from NdefX.nscope_by (by decide +kernel)) rfl (fun _ h doc pm ctv => by rename_i z; cases z) (fun i t hi h doc pm ctv => by have h : dV = .ref t := h; subst h; exact ⟨_, rfl, fun u => rfl⟩) (fun A outer s H E f G hex c => ei_call c h_grid (ea_cons (ei_int) (ea_cons (ei_var (i := 1)) (ea_nil))) hex (by decide)) hr e0 la C sF r hm hE
theorem lr_2 {X : Cx} {v : V} {d : D} (h_shares : Df true P w K mg base "shares" 2 5 (spD K ex 2 d_shares)) (hm : ∃ ρ', m2_lam (start0 2 ([.int 0, d])) = some (.exc ⟨5, []⟩ ρ')) :
    ∀ dV c, LRun P w K mg base ex 11 ((kap_2 X v d).lf dV c) (kap_2 X v d).di (kap_2 X v d).fr (kap_2 X v d).ds ⟨5, []⟩ := by
  intro dV cc A outer s H F f Q E vs hr e0 la C sF r hE
  obtain ⟨ρ', hm⟩ := hm
  exact lam_call (m := m2_lam) (ps := ["b"]) (k := 10) (show NdefX.NScope ["b", "bad"] ["b"] ["bad"] (lamS (lamX 1 0)) from NdefX.nscope_by (by decide +kernel)) rfl (fun _ h doc pm ctv => by rename_i z; cases z) (fun i t hi h doc pm ctv => by have h : dV = .ref t := h; subst h; exact ⟨_, rfl, fun u => rfl⟩) (fun A outer s H E f G hex c => ei_call c h_shares (ea_cons (ei_var (i := 1)) (ea_cons (ei_non) (ea_nil))) hex (by decide)) hr e0 la C sF r hm hE
theorem lr_3 {X : Cx} {v : V} {d : D} (h_shares : Df true P w K mg base "shares" 2 5 (spD K ex 2 d_shares)) (hm : ∃ ρ', m3_lam (start0 2 ([.int 0, d])) = some (.exc ⟨5, []⟩ ρ')) :
    ∀ dV c, LRun P w K mg base ex 11 ((kap_3 X v d).lf dV c) (kap_3 X v d).di (kap_3 X v d).fr (kap_3 X v d).ds ⟨5, []⟩ := by
  intro dV cc A outer s H F f Q E vs hr e0 la C sF r hE
  obtain ⟨ρ', hm⟩ := hm
  exact lam_call (m := m3_lam) (ps := ["c"]) (k := 10) (show NdefX.NScope ["c", "bad"] ["c"] ["bad"] (lamS (lamX 1 1)) from NdefX.nscope_by (by decide +kernel)) rfl (fun _ h doc pm ctv => by rename_i z; cases z) (fun i t hi h doc pm ctv => by have h : dV = .ref t := h; subst h; exact ⟨_, rfl, fun u => rfl⟩) (fun A outer s H E f G hex c => ei_call c h_shares (ea_cons (ei_int) (ea_cons (ei_var (i := 1)) (ea_nil))) hex (by decide)) hr e0 la C sF r hm hE
theorem lr_4 {X : Cx} {v : V} {d : D} (h_grid : Df true P w K mg base "grid" 2 5 (spD K ex 2 d_grid)) (hm : ∃ ρ', m4_lam (start0 0 ([])) = some (.exc ⟨5, []⟩ ρ')) :
    ∀ dV c, LRun P w K mg base ex 11 ((kap_4 X v d).lf dV c) (kap_4 X v d).di (kap_4 X v d).fr (kap_4 X v d).ds ⟨5, []⟩ := by
  intro dV cc A outer s H F f Q E vs hr e0 la C sF r hE
  obtain ⟨ρ', hm⟩ := hm
  exact lam_call (m := m4_lam) (ps := []) (k := 10) (show NdefX.NScope [] [] [] (lamS (lamX 2 0)) from NdefX.nscope_by (by decide +kernel)) rfl (fun _ h doc pm ctv => by have h : dV = .none := h; subst h; rfl) (fun i t hi h doc pm ctv => by cases hi) (fun A outer s H E f G hex c => ei_call c h_grid (ea_cons (ei_int) (ea_cons (ei_int) (ea_nil))) hex (by decide)) hr e0 la C sF r hm hE
theorem lr_5 {X : Cx} {v : V} {d : D} (h_shares : Df true P w K mg base "shares" 2 5 (spD K ex 2 d_shares)) (hm : ∃ ρ', m5_lam (start0 1 ([.int 0])) = some (.exc ⟨5, []⟩ ρ')) :
    ∀ dV c, LRun P w K mg base ex 11 ((kap_5 X v d).lf dV c) (kap_5 X v d).di (kap_5 X v d).fr (kap_5 X v d).ds ⟨5, []⟩ := by
  intro dV cc A outer s H F f Q E vs hr e0 la C sF r hE
  obtain ⟨ρ', hm⟩ := hm
  exact lam_call (m := m5_lam) (ps := ["a"]) (k := 10) (show NdefX.NScope ["a"] ["a"] [] (lamS (lamX 2 1)) from NdefX.nscope_by (by decide +kernel)) rfl (fun _ h doc pm ctv => by rename_i z; cases z) (fun i t hi h doc pm ctv => by have h : dV = .ref t := h; subst h; exact ⟨_, rfl, fun u => rfl⟩) (fun A outer s H E f G hex c => ei_call c h_shares (ea_cons (ei_int) (ea_cons (ei_int) (ea_nil))) hex (by decide)) hr e0 la C sF r hm hE
theorem lr_6 {X : Cx} {v : V} {d : D} (h_round_grids : Df true P w K mg base "round_grids" 1 6 (spD K ex 1 d_round_grids)) (hm : ∃ ρ', m6_lam (start0 2 ([.int 0, d])) = some (.exc ⟨5, []⟩ ρ')) :
    ∀ dV c, LRun P w K mg base ex 11 ((kap_6 X v d).lf dV c) (kap_6 X v d).di (kap_6 X v d).fr (kap_6 X v d).ds ⟨5, []⟩ := by
  intro dV cc A outer s H F f Q E vs hr e0 la C sF r hE
  obtain ⟨ρ', hm⟩ := hm
  exact lam_call (m := m6_lam) (ps := ["b"]) (k := 10) (show NdefX.NScope ["b", "bad"] ["b"] ["bad"] (lamS (lamX 2 2)) from NdefX.nscope_by (by decide +kernel)) rfl (fun _ h doc pm ctv => by rename_i z; cases z) (fun i t hi h doc pm ctv => by have h : dV = .ref t := h; subst h; exact ⟨_, rfl, fun u => rfl⟩) (fun A outer s H E f G hex c => ei_call c h_round_grids (ea_cons (ei_var (i := 1)) (ea_nil)) hex (by decide)) hr e0 la C sF r hm hE
inductive BadV : D → Prop
  | non : BadV .non
  | zero : BadV (.int 0)
  | big : BadV (.int 13)
  | yes : BadV (.bl true)
  | two : BadV (.str "2")
theorem xm_0 (d : D) (h : BadV d) : ∃ ρ', m0_lam (start0 1 [d]) = some (.exc ⟨5, []⟩ ρ') := by
  refine ⟨start0 1 [d], ?_⟩
  cases h <;> kernel_rfl
theorem xm_1 (d : D) (h : BadV d) : ∃ ρ', m1_lam (start0 2 [.int 0, d]) = some (.exc ⟨5, []⟩ ρ') := by
  refine ⟨start0 2 [.int 0, d], ?_⟩
  cases h <;> kernel_rfl
theorem xm_2 (d : D) (h : BadV d) : ∃ ρ', m2_lam (start0 2 [.int 0, d]) = some (.exc ⟨5, []⟩ ρ') := by
  refine ⟨start0 2 [.int 0, d], ?_⟩
  cases h <;> kernel_rfl
theorem xm_3 (d : D) (h : BadV d) : ∃ ρ', m3_lam (start0 2 [.int 0, d]) = some (.exc ⟨5, []⟩ ρ') := by
  refine ⟨start0 2 [.int 0, d], ?_⟩
  cases h <;> kernel_rfl
theorem xm_4 (d : D) (h : BadV d) : ∃ ρ', m4_lam (start0 0 []) = some (.exc ⟨5, []⟩ ρ') := by
  refine ⟨start0 0 [], ?_⟩
  cases h <;> kernel_rfl
theorem xm_5 (d : D) (h : BadV d) : ∃ ρ', m5_lam (start0 1 [.int 0]) = some (.exc ⟨5, []⟩ ρ') := by
  refine ⟨start0 1 [.int 0], ?_⟩
  cases h <;> kernel_rfl
theorem xm_6 (d : D) (h : BadV d) : ∃ ρ', m6_lam (start0 2 [.int 0, d]) = some (.exc ⟨5, []⟩ ρ') := by
  refine ⟨start0 2 [.int 0, d], ?_⟩
  cases h <;> kernel_rfl
theorem fn_law {f cc0 Pt : Addr} {od an : Option Addr} {oc kV dc pm ct : Value} {sl : Array (Option Value)} (l : K.lookup f = some ⟨oc, od, .func (PySem.W.fnOf "law" "law" (defArgs s_law) (defBody s_law) (defScope s_law) .none kV dc pm an (.ref cc0) ct), sl⟩) (hcd : PySem.W.codeIn K (.ref cc0) "law" = true)
    (nP : K.lookup Pt = none) (TB : LamX.TabB base mg cc0 Pt) (B : Bi mg) (h_law_taken : Df true P w K mg base "_law_taken" 2 2 (spL K ex 2 d__law_taken)) (h_law_shares : Df true P w K mg base "_law_shares" 2 4 (spD K ex 2 d__law_shares2)) (h_law_alike : Df true P w K mg base "_law_alike" 2 10 (spD K ex 2 (d__law_alike 8))) (h_shares : Df true P w K mg base "shares" 2 5 (spD K ex 2 d_shares)) (h_grid : Df true P w K mg base "grid" 2 5 (spD K ex 2 d_grid)) (h_law_divisor : Df true P w K mg base "_law_divisor" 2 2 (spD K ex 2 d__law_divisor2)) (h_numbers : Df true P w K mg base "numbers" 1 9 (spD K ex 1 d_numbers)) (h_count_rounds : Df true P w K mg base "count_rounds" 1 10 (spD K ex 1 d_count_rounds)) (h_law_choose : Df true P w K mg base "_law_choose" 2 2 (spD K ex 2 d__law_choose)) (h_round_grids : Df true P w K mg base "round_grids" 1 6 (spD K ex 1 d_round_grids)) (h_law_pick : Df true P w K mg base "_law_pick" 2 3 (spL K ex 2 d__law_pick)) (h_law_bad : ∀ j, ∃ fg, mg "_law_bad" = some (.ref fg) ∧ PySem.W.keepIn K (.ref fg) = true ∧ ErrRun P w K mg base ex j (j + 1) fg ⟨5, []⟩ (.bl true))   (math : ∀ ns : List Int, ns.length ≤ 63 → ∃ ρ1 d, head_law (start0 16 [.scr ns]) = some (.ok .nx ρ1) ∧ ρ1[13]? = some (.val d) ∧ BadV d ∧ imm d = true) :
    FnOk P w K mg base (L2N.CX P w) 13 f (PySem.W.fnOf "law" "law" (defArgs s_law) (defBody s_law) (defScope s_law) .none kV dc pm an (.ref cc0) ct) ["script"] (spT K Pt) := by
  obtain ⟨fg, hm, hkp, er⟩ := h_law_bad 11
  refine fn_T (ex := ex) (ok := BadV) (ib := 13) l hcd nP sc_law (by decide) math fun A outer s H E cc G hG hex => ?_
  have c := cc G hG hex
  exact pss_then (es_own (i := 1) c (en_lst (ea_cons (ei_var (i := 0)) (ea_cons (ei_int) (ea_cons (ei_int) (ea_cons (ei_int) (ea_nil))))))) (pss_then (es_par2 (i := 2) (j := 3) (P := (.v (bin2 addD (M.pure (.int 1)) (lendM 1 2 d__law_taken (consM (M.pure (.int 12)) (M.pure [])))))) (Q := (.v (bin2 addD (M.pure (.int 1)) (lendM 1 2 d__law_taken (consM (M.pure (.int 12)) (M.pure [])))))) c (ei_add c (ei_int) (ei_lend (i := 1) c h_law_taken (ea_cons (ei_int) (ea_nil)) (hj := (by decide)))) (ei_add c (ei_int) (ei_lend (i := 1) c h_law_taken (ea_cons (ei_int) (ea_nil)) (hj := (by decide))))) (pss_then (es_set (i := 2) c (ei_if (et_lt c (ei_mul c (ei_var (i := 2)) (ei_var (i := 3))) (PE.now (ei_int))) (ei_int) (ei_var (i := 2)))) (pss_then (es_par2 (i := 4) (j := 5) (P := (.v (tupM (consM (rd 2) (consM (rd 3) (consM (tupM (consM (bin2 modD (M.pure (.int 1)) (rd 2)) (consM (M.pure (.int 0)) (M.pure [])))) (consM (tupM (consM (M.pure (.int 0)) (consM (bin2 modD (M.pure (.int 1)) (rd 3)) (M.pure [])))) (M.pure [])))))))) (Q := (.v (callM 2 d__law_shares2 (consM (rd 2) (consM (rd 3) (M.pure [])))))) c (ei_tup (ea_cons (ei_var (i := 2)) (ea_cons (ei_var (i := 3)) (ea_cons (ei_tup (ea_cons (ei_mod c (ei_int) (ei_var (i := 2))) (ea_cons (ei_int) (ea_nil)))) (ea_cons (ei_tup (ea_cons (ei_int) (ea_cons (ei_mod c (ei_int) (ei_var (i := 3))) (ea_nil)))) (ea_nil)))))) (ei_call c h_law_shares (ea_cons (ei_var (i := 2)) (ea_cons (ei_var (i := 3)) (ea_nil))) hex (by decide))) (pss_then (es_if (et_not (et_val (ei_call c h_law_alike (ea_cons (PE.settled (en_lst (ea_cons (ei_call c h_grid (ea_cons (ei_var (i := 2)) (ea_cons (ei_var (i := 3)) (ea_nil))) hex (by decide)) (ea_cons (ei_call c h_shares (ea_cons (ei_var (i := 2)) (ea_cons (ei_var (i := 3)) (ea_nil))) hex (by decide)) (ea_nil))))) (ea_cons (PE.settled (en_lst (ea_cons (ei_var (i := 4)) (ea_cons (ei_tuple c B.tuple (ei_var (i := 5))) (ea_nil))))) (ea_nil))) hex (by decide)))) (es_one (es_ret (ei_bl))) (es_nil)) (pss_then (es_for c (passes_of rfl) (ew_seq c (ei_var (i := 5))) (eg_tup c (egs_cons (i := 6) c (egs_cons (i := 7) c (egs_nil)))) (es_cons (es_if (PW.pt (ew_or (et_ne c (ei_call c h_law_divisor (ea_cons (ei_var (i := 6)) (ea_cons (ei_var (i := 2)) (ea_nil))) hex (by decide)) (PE.now (ei_int))) (ew_or1 (et_ne c (ei_call c h_law_divisor (ea_cons (ei_var (i := 7)) (ea_cons (ei_var (i := 3)) (ea_nil))) hex (by decide)) (PE.now (ei_int)))))) (es_one (es_ret (ei_bl))) (es_nil)) (es_one (es_if (et_ne c (ei_add c (ei_var (i := 6)) (ei_var (i := 7))) (PE.now (ei_call c h_law_divisor (ea_cons (ei_var (i := 2)) (ea_cons (ei_var (i := 3)) (ea_nil))) hex (by decide)))) (es_one (es_ret (ei_bl))) (es_nil))))) (pss_then (es_if (et_not (et_val (ei_call c h_law_alike (ea_cons (ei_call c h_numbers (ea_cons (ei_var (i := 4)) (ea_nil)) hex (by decide)) (ea_cons (ei_tuple c B.tuple (PE.settled (en_lc c (ew_seq c (ei_var (i := 5))) (blkOk_by (own := [("east", 6), ("north", 7)]) (N := N_law) (sc := (defScope s_law)) (by decide +kernel)) rfl (by decide) (fun s H C cl fp c => eg_tup c (egs_cons (i := 6) c (egs_cons (i := 7) c (egs_nil)))) (fun s H C cl fp c => ets_nil) (fun s H C cl fp c => ei_var (i := 6))))) (ea_nil))) hex (by decide)))) (es_one (es_ret (ei_bl))) (es_nil)) (pss_then (es_if (et_ne c (ei_call c h_count_rounds (ea_cons (ei_var (i := 4)) (ea_nil)) hex (by decide)) (PE.now (ei_sum c B.sum (PE.settled (en_lc c (ew_seq c (ei_var (i := 5))) (blkOk_by (own := [("east", 6), ("north", 7)]) (N := N_law) (sc := (defScope s_law)) (by decide +kernel)) rfl (by decide) (fun s H C cl fp c => eg_tup c (egs_cons (i := 6) c (egs_cons (i := 7) c (egs_nil)))) (fun s H C cl fp c => ets_nil) (fun s H C cl fp c => ei_call c h_law_choose (ea_cons (ei_add c (ei_var (i := 6)) (ei_var (i := 7))) (ea_cons (ei_var (i := 6)) (ea_nil))) hex (by decide))))))) (es_one (es_ret (ei_bl))) (es_nil)) (pss_then (es_par2 (i := 8) (j := 9) (P := (.v (bin2 addD (M.pure (.int 1)) (lendM 1 2 d__law_taken (consM (M.pure (.int 12)) (M.pure [])))))) (Q := (.c (lstM (M.pure [])))) c (ei_add c (ei_int) (ei_lend (i := 1) c h_law_taken (ea_cons (ei_int) (ea_nil)) (hj := (by decide)))) (en_lst (ea_nil))) (pss_then (es_for c (passes_of rfl) (ew_range2 B.range (ea_cons (ei_int) (ea_cons (ei_add c (ei_var (i := 8)) (ei_int)) (ea_nil)))) (eg_nm (i := 10) c) (es_cons (es_ownLc (i := 11) c (ew_range2 B.range (ea_cons (ei_int) (ea_cons (ei_add c (ei_var (i := 8)) (ei_int)) (ea_nil)))) (blkOk_by (own := [("other", 12)]) (N := N_law) (sc := (defScope s_law)) (by decide +kernel)) (sw_true rfl rfl rfl (by decide +kernel)) (fun s H C cl fp c => eg_nm (i := 12) c) (fun s H C cl fp c => ets_one (et_gt c (ei_mul c (ei_var (i := 10)) (ei_var (i := 12))) (PE.now (ei_int)))) (fun s H C cl fp c => ei_var (i := 12))) (es_one (es_own (i := 9) c (en_cat (ei_var (i := 9)) (PE.settled (en_lc c (ew_seq c (ei_var (i := 11))) (blkOk_by (own := [("other", 12)]) (N := N_law) (sc := (defScope s_law)) (by decide +kernel)) rfl (by decide) (fun s H C cl fp c => eg_nm (i := 12) c) (fun s H C cl fp c => ets_one (et_neNil c (PE.now (ei_call c h_law_shares (ea_cons (ei_var (i := 10)) (ea_cons (ei_var (i := 12)) (ea_nil))) hex (by decide))))) (fun s H C cl fp c => ei_tup (ea_cons (ei_var (i := 10)) (ea_cons (ei_var (i := 12)) (ea_nil))))))))))) (pss_then (es_if (et_not (et_val (ei_call c h_law_alike (ea_cons (ei_call c h_round_grids (ea_cons (ei_var (i := 8)) (ea_nil)) hex (by decide)) (ea_cons (ei_tuple c B.tuple (ei_var (i := 9))) (ea_nil))) hex (by decide)))) (es_one (es_ret (ei_bl))) (es_nil)) (pss_last (es_set (i := 13) c (ei_lend (i := 1) c h_law_pick (ea_cons (PE.settled (en_lst (ea_cons (ei_non) (ea_cons (ei_int) (ea_cons (ei_int) (ea_cons (ei_bl) (ea_cons (ei_str) (ea_nil)))))))) (ea_nil)) (hj := (by decide)))) (pss_tail (n := 16) rfl (fun v d hok hv => pss_hs (hs_works0 (ks := ks_law _ v d) (i := 14) (PZ := PZv 13 16 v) (PH := fun _ => True) c.nd rfl (Or.inl rfl) (pa_lams (κ := kap_0 _ v d) (pe_lam0 TB rfl (NdefX.ndef_free (sc := defScope s_law) (nsc := lamS (lamX 0 0)) (fr := ["bad"]) (by decide +kernel)) rfl) (List.Mem.head _) (pa_lams (κ := kap_1 _ v d) (pe_lam1 TB rfl (NdefX.ndef_free (sc := defScope s_law) (nsc := lamS (lamX 0 1)) (fr := ["bad"]) (by decide +kernel)) rfl rfl) (List.Mem.tail _ (List.Mem.head _)) (pa_lams_nil))) (by decide) (by decide) (fun σ u h => h.set (by decide) u) (fun σ h => by rw [h.2]; decide) (fun _ _ _ _ => trivial)) (pss_hs (hs_works (ks := ks_law _ v d) (i := 14) (PZ := PZv 13 16 v) (PH := fun _ => True) c.nd rfl (Or.inl rfl) (pa_lams (κ := kap_2 _ v d) (pe_lam1 TB rfl (NdefX.ndef_free (sc := defScope s_law) (nsc := lamS (lamX 1 0)) (fr := ["bad"]) (by decide +kernel)) rfl rfl) (List.Mem.tail _ (List.Mem.tail _ (List.Mem.head _))) (pa_lams (κ := kap_3 _ v d) (pe_lam1 TB rfl (NdefX.ndef_free (sc := defScope s_law) (nsc := lamS (lamX 1 1)) (fr := ["bad"]) (by decide +kernel)) rfl rfl) (List.Mem.tail _ (List.Mem.tail _ (List.Mem.tail _ (List.Mem.head _)))) (pa_lams_nil))) (by decide) (by decide) (by decide) (fun σ u h => h.set (by decide) u) (fun σ h => by rw [h.2]; decide) (fun _ _ _ _ => trivial)) (pss_hs (hs_works (ks := ks_law _ v d) (i := 14) (PZ := PZv 13 16 v) (PH := fun _ => True) c.nd rfl (Or.inl rfl) (pa_lams (κ := kap_4 _ v d) (pe_lam0 TB rfl (NdefX.ndef_free (sc := defScope s_law) (nsc := lamS (lamX 2 0)) (fr := []) (by decide +kernel)) rfl) (List.Mem.tail _ (List.Mem.tail _ (List.Mem.tail _ (List.Mem.tail _ (List.Mem.head _))))) (pa_lams (κ := kap_5 _ v d) (pe_lam1 TB rfl (NdefX.ndef_free (sc := defScope s_law) (nsc := lamS (lamX 2 1)) (fr := []) (by decide +kernel)) rfl rfl) (List.Mem.tail _ (List.Mem.tail _ (List.Mem.tail _ (List.Mem.tail _ (List.Mem.tail _ (List.Mem.head _)))))) (pa_lams (κ := kap_6 _ v d) (pe_lam1 TB rfl (NdefX.ndef_free (sc := defScope s_law) (nsc := lamS (lamX 2 2)) (fr := ["bad"]) (by decide +kernel)) rfl rfl) (List.Mem.tail _ (List.Mem.tail _ (List.Mem.tail _ (List.Mem.tail _ (List.Mem.tail _ (List.Mem.tail _ (List.Mem.head _))))))) (pa_lams_nil)))) (by decide) (by decide) (by decide) (fun σ u h => h.set (by decide) u) (fun σ h => by rw [h.2]; decide) (fun _ _ _ _ => trivial)) (es_errret (ex := ex) (k := 12) (ρ' := List.replicate 16 Slot.emp) cc (pe_errlist (ks := ks_law _ v d) (iy := 15) c (by decide) er hm hkp (all2 (lr_0 h_grid (xm_0 d hok)) (all2 (lr_1 h_grid (xm_1 d hok)) (all2 (lr_2 h_shares (xm_2 d hok)) (all2 (lr_3 h_shares (xm_3 d hok)) (all2 (lr_4 h_grid (xm_4 d hok)) (all2 (lr_5 h_shares (xm_5 d hok)) (all2 (lr_6 h_round_grids (xm_6 d hok)) (all0)))))))) (all2 (capk_one (NdefX.ndef_free (sc := defScope s_law) (nsc := lamS (lamX 0 0)) (fr := ["bad"]) (by decide +kernel)) (NdefX.ndef_fr (sc := defScope s_law) (nsc := lamS (lamX 0 0)) (fr := ["bad"]) (by decide +kernel)) rfl (fun _ => rfl)) (all2 (capk_one (NdefX.ndef_free (sc := defScope s_law) (nsc := lamS (lamX 0 1)) (fr := ["bad"]) (by decide +kernel)) (NdefX.ndef_fr (sc := defScope s_law) (nsc := lamS (lamX 0 1)) (fr := ["bad"]) (by decide +kernel)) rfl (fun _ => rfl)) (all2 (capk_one (NdefX.ndef_free (sc := defScope s_law) (nsc := lamS (lamX 1 0)) (fr := ["bad"]) (by decide +kernel)) (NdefX.ndef_fr (sc := defScope s_law) (nsc := lamS (lamX 1 0)) (fr := ["bad"]) (by decide +kernel)) rfl (fun _ => rfl)) (all2 (capk_one (NdefX.ndef_free (sc := defScope s_law) (nsc := lamS (lamX 1 1)) (fr := ["bad"]) (by decide +kernel)) (NdefX.ndef_fr (sc := defScope s_law) (nsc := lamS (lamX 1 1)) (fr := ["bad"]) (by decide +kernel)) rfl (fun _ => rfl)) (all2 (capk_nil (NdefX.ndef_free (sc := defScope s_law) (nsc := lamS (lamX 2 0)) (fr := []) (by decide +kernel)) (fun _ => rfl)) (all2 (capk_nil (NdefX.ndef_free (sc := defScope s_law) (nsc := lamS (lamX 2 1)) (fr := []) (by decide +kernel)) (fun _ => rfl)) (all2 (capk_one (NdefX.ndef_free (sc := defScope s_law) (nsc := lamS (lamX 2 2)) (fr := ["bad"]) (by decide +kernel)) (NdefX.ndef_fr (sc := defScope s_law) (nsc := lamS (lamX 2 2)) (fr := ["bad"]) (by decide +kernel)) rfl (fun _ => rfl)) (all0)))))))) (fun H _ => all2 ⟨fun _ => none, fun _ _ h => (nomatch h), .one (hv _)⟩ (all2 ⟨fun _ => none, fun _ _ h => (nomatch h), .one (hv _)⟩ (all2 ⟨fun _ => none, fun _ _ h => (nomatch h), .one (hv _)⟩ (all2 ⟨fun _ => none, fun _ _ h => (nomatch h), .one (hv _)⟩ (all2 ⟨fun _ => none, fun _ _ h => (nomatch h), .nil⟩ (all2 ⟨fun _ => none, fun _ _ h => (nomatch h), .nil⟩ (all2 ⟨fun _ => none, fun _ _ h => (nomatch h), .one (hv _)⟩ (all0)))))))) (fun _ _ _ _ => trivial) rfl (Or.inl rfl) (blkOk_by (own := [("work", 15)]) (N := N_law) (sc := defScope s_law) (by decide +kernel)) rfl rfl (fun σ h => by rw [h.2]; decide) (fun _ _ _ _ _ => pg_name c.nd rfl (Or.inl rfl)) (fun _ _ => Or.inl rfl) (fun _ _ _ _ _ => rfl) (by decide)) (fun G hG hex => have c := cc G hG hex; ei_repL c (PE.settled (en_lst (ea_cons (ei_bl) (ea_nil)))) (ei_int)) rfl c.u64 (nomark _) (by decide +kernel)))))))))))))))))
theorem all_law {l : PySem.W.OpenLaw} {h : Heap} {fa f cc0 Pt : Addr} {od an dd : Option Addr} {oc kV dc pm ct e0 : Value} {sl sl2 : Array (Option Value)} {vs : Array Value} (X : K.In h) (G : h.Ns mainGlobals mg) (hfa : mg "law" = some (.ref fa)) (own : LamX.OwnTab K fa h)
    (a : PySem.W.nsIn K mainGlobals "law" = some (some (.ref f))) (lk : K.lookup f = some ⟨oc, od, .func (PySem.W.fnOf "law" "law" (defArgs s_law) (defBody s_law) (defScope s_law) .none kV dc pm an (.ref cc0) ct), sl⟩) (c : PySem.W.codeIn K (.ref cc0) "law" = true)
    (lc : K.lookup cc0 = some ⟨e0, dd, .fields vs, sl2⟩) (lP : vs[11]? = some (.ref Pt)) (hh : PySem.W.codeHdIn K cc0 Pt = true) (nP : K.lookup Pt = none)
    (math : ∀ ns : List Int, ns.length ≤ 63 → ∃ ρ1 d, head_law (start0 16 [.scr ns]) = some (.ok .nx ρ1) ∧ ρ1[13]? = some (.val d) ∧ BadV d ∧ imm d = true)
    (B : Bi mg) (D_is_number : DefAt K mg "is_number" s_is_number ["value", "low", "high"]) (D_is_pair : DefAt K mg "is_pair" s_is_pair ["value", "width", "height"]) (D_are_sides : DefAt K mg "are_sides" s_are_sides ["width", "height"]) (D_wrong_part : DefAt K mg "wrong_part" s_wrong_part ["value"]) (D_check_town : DefAt K mg "check_town" s_check_town ["town"]) (D_check_crossing : DefAt K mg "check_crossing" s_check_crossing ["town", "crossing"]) (D_added : DefAt K mg "added" s_added ["town", "one", "other"]) (D_steps_difference : DefAt K mg "steps_difference" s_steps_difference ["town"]) (D_ends : DefAt K mg "ends" s_ends ["town", "crossing"]) (D_order : DefAt K mg "order" s_order ["town", "crossing"]) (D_is_whole : DefAt K mg "is_whole" s_is_whole ["town"]) (D_count_lots : DefAt K mg "count_lots" s_count_lots ["town"]) (D_check_sides : DefAt K mg "check_sides" s_check_sides ["width", "height"]) (D_grid : DefAt K mg "grid" s_grid ["width", "height"]) (D_shares : DefAt K mg "shares" s_shares ["width", "height"]) (D_round_grids : DefAt K mg "round_grids" s_round_grids ["most"]) (D_multiple : DefAt K mg "multiple" s_multiple ["town", "crossing", "times"]) (D_rings_made : DefAt K mg "rings_made" s_rings_made ["town", "many"]) (D_numbers : DefAt K mg "numbers" s_numbers ["town"]) (D_count_rounds : DefAt K mg "count_rounds" s_count_rounds ["town"]) (D__law_taken : DefAt K mg "_law_taken" s__law_taken ["row", "many"]) (D__law_pick : DefAt K mg "_law_pick" s__law_pick ["row", "things"]) (D__law_alike : DefAt K mg "_law_alike" s__law_alike ["found", "due"]) (D__law_led : DefAt K mg "_law_led" s__law_led ["town", "place", "step"]) (D__law_row : DefAt K mg "_law_row" s__law_row ["town", "step"]) (D__law_choose : DefAt K mg "_law_choose" s__law_choose ["many", "some"]) (D__law_divisor2 : DefAt K mg "_law_divisor" s__law_divisor2 ["one", "other"]) (D__law_shares2 : DefAt K mg "_law_shares" s__law_shares2 ["width", "height"]) (D__law_bad : DefAt K mg "_law_bad" s__law_bad ["work"]) (x_BadCrossing : ExcAt K mg (exOf mg) "BadCrossing" 2) (x_BadNumber : ExcAt K mg (exOf mg) "BadNumber" 5) (ia : IsAt K (exOf mg) 5 (.type "ValueError") true) :
    LamX.LawAtS l w K (L2N.CX l.prog w) 13 63 "script" mg fa h := by
  have e := hfa.symm.trans (PySem.W.mg_of X G a)
  cases e
  refine ⟨PySem.W.fnOf "law" "law" (defArgs s_law) (defBody s_law) (defScope s_law) .none kV dc pm an (.ref cc0) ct, [(cc0, Pt)], spT K Pt, all2 (own cc0 Pt _ _ _ _ _ _ lk rfl rfl lc lP) all0, all2 nP all0, all2 (PySem.W.codeHd_of_K X hh) all0, fun s v => .of_eq rfl,
    fun H a ns hl _ hT hS => ⟨a, ns, rfl, hS, hl, hT _ (List.Mem.head _), fun _ => rfl⟩, fun base _ _ TBs => ?_⟩
  have TB := TBs _ (List.Mem.head _)
  have h_is_number := ok_is_number (P := l.prog) (w := w) (base := base) (ex := exOf mg) D_is_number B 
  have h_is_pair := ok_is_pair (P := l.prog) (w := w) (base := base) (ex := exOf mg) D_is_pair B h_is_number
  have h_are_sides := ok_are_sides (P := l.prog) (w := w) (base := base) (ex := exOf mg) D_are_sides B h_is_number
  have h_wrong_part := ok_wrong_part (P := l.prog) (w := w) (base := base) (ex := exOf mg) D_wrong_part B h_are_sides h_is_pair
  have h_check_town := ok_check_town (P := l.prog) (w := w) (base := base) (ex := exOf mg) D_check_town B h_wrong_part
  have h_check_crossing := ok_check_crossing (P := l.prog) (w := w) (base := base) (ex := exOf mg) D_check_crossing B h_is_pair x_BadCrossing
  have h_added := ok_added (P := l.prog) (w := w) (base := base) (ex := exOf mg) D_added B 
  have h_steps_difference := ok_steps_difference (P := l.prog) (w := w) (base := base) (ex := exOf mg) D_steps_difference B 
  have h_ends := ok_ends (P := l.prog) (w := w) (base := base) (ex := exOf mg) D_ends B h_check_town h_check_crossing h_added
  have h_order := ok_order (P := l.prog) (w := w) (base := base) (ex := exOf mg) D_order B h_check_town h_check_crossing
  have h_is_whole := ok_is_whole (P := l.prog) (w := w) (base := base) (ex := exOf mg) D_is_whole B h_check_town h_ends
  have h_count_lots := ok_count_lots (P := l.prog) (w := w) (base := base) (ex := exOf mg) D_count_lots B h_order h_steps_difference
  have h_check_sides := ok_check_sides (P := l.prog) (w := w) (base := base) (ex := exOf mg) D_check_sides B h_are_sides x_BadNumber
  have h_grid := ok_grid (P := l.prog) (w := w) (base := base) (ex := exOf mg) D_grid B h_check_sides
  have h_shares := ok_shares (P := l.prog) (w := w) (base := base) (ex := exOf mg) D_shares B h_check_sides
  have h_round_grids := ok_round_grids (P := l.prog) (w := w) (base := base) (ex := exOf mg) D_round_grids B h_is_number h_are_sides h_shares x_BadNumber
  have h_multiple := ok_multiple (P := l.prog) (w := w) (base := base) (ex := exOf mg) D_multiple B 
  have h_rings_made := ok_rings_made (P := l.prog) (w := w) (base := base) (ex := exOf mg) D_rings_made B h_added h_multiple h_count_lots h_order h_steps_difference
  have h_numbers := ok_numbers (P := l.prog) (w := w) (base := base) (ex := exOf mg) D_numbers B h_check_town h_is_whole h_count_lots h_rings_made
  have h_count_rounds := ok_count_rounds (P := l.prog) (w := w) (base := base) (ex := exOf mg) D_count_rounds B h_numbers h_count_lots
  have h_law_taken := ok__law_taken (P := l.prog) (w := w) (base := base) (ex := exOf mg) D__law_taken B 
  have h_law_pick := ok__law_pick (P := l.prog) (w := w) (base := base) (ex := exOf mg) D__law_pick B h_law_taken
  have h_law_alike := ok__law_alike (P := l.prog) (w := w) (base := base) (ex := exOf mg) D__law_alike B  8
  have h_law_led := ok__law_led (P := l.prog) (w := w) (base := base) (ex := exOf mg) D__law_led B 
  have h_law_row := ok__law_row (P := l.prog) (w := w) (base := base) (ex := exOf mg) D__law_row B h_law_led
  have h_law_choose := ok__law_choose (P := l.prog) (w := w) (base := base) (ex := exOf mg) D__law_choose B 
  have h_law_divisor := ok__law_divisor2 (P := l.prog) (w := w) (base := base) (ex := exOf mg) D__law_divisor2 B 
  have h_law_shares := ok__law_shares2 (P := l.prog) (w := w) (base := base) (ex := exOf mg) D__law_shares2 B h_law_divisor h_law_row
  have h_law_bad := ok__law_bad (P := l.prog) (w := w) (base := base) (ex := exOf mg) D__law_bad B x_BadNumber ia
  exact fn_law lk c nP TB B h_law_taken h_law_shares h_law_alike h_shares h_grid h_law_divisor h_numbers h_count_rounds h_law_choose h_round_grids h_law_pick h_law_bad math
end
end K04

namespace K04
open Dn
abbrev Pt2 := Nat × Nat
def pN (p : Pt2) : D := .tup [.int p.1, .int p.2]
def tD (w h : Nat) (f s : Pt2) : D := .tup [.int w, .int h, pN f, pN s]
def ledP (w h : Nat) (a b : Pt2) : Pt2 := ((a.1 + b.1) % w, (a.2 + b.2) % h)
def gapP (w h : Nat) (f s : Pt2) : Pt2 := ((f.1 + w - s.1) % w, (f.2 + h - s.2) % h)
theorem fmod_nat (a b : Nat) : Int.fmod (a : Int) (b : Int) = ((a % b : Nat) : Int) := by
  rw [Int.fmod_eq_emod_of_nonneg _ (Int.natCast_nonneg b)]
  rfl
theorem fmod_add (a c b : Nat) : Int.fmod ((a : Int) + (c : Int)) (b : Int) = (((a + c) % b : Nat) : Int) := fmod_nat (a + c) b
theorem fmod_sub {a c b : Nat} (h : c < b) : Int.fmod ((a : Int) - (c : Int)) (b : Int) = (((a + b - c) % b : Nat) : Int) := by
  rw [Int.fmod_eq_emod_of_nonneg _ (Int.natCast_nonneg b)]
  have e : ((a + b - c : Nat) : Int) = (a : Int) - c + b := by omega
  rw [Int.natCast_emod, e, Int.add_emod_right]
theorem mk_pN (x y : Nat) : D.tup [D.int (x : Int), D.int (y : Int)] = pN (x, y) := rfl
theorem mk_p0 : D.tup [D.int 0, D.int 0] = pN (0, 0) := rfl
theorem ix_p0 (p : Pt2) : ixD (pN p) (.int 0) = some (.int p.1) := rfl
theorem ix_p1 (p : Pt2) : ixD (pN p) (.int 1) = some (.int p.2) := rfl
theorem ix_t0 (w h : Nat) (f s : Pt2) : ixD (tD w h f s) (.int 0) = some (.int w) := rfl
theorem ix_t1 (w h : Nat) (f s : Pt2) : ixD (tD w h f s) (.int 1) = some (.int h) := rfl
theorem ix_t2 (w h : Nat) (f s : Pt2) : ixD (tD w h f s) (.int 2) = some (pN f) := rfl
theorem ix_t3 (w h : Nat) (f s : Pt2) : ixD (tD w h f s) (.int 3) = some (pN s) := rfl
theorem lay_pN (n : Nat) (p : Pt2) : lay (n + 1) (pN p) = true := by simp [pN, lay]
theorem eqv_pN (n : Nat) (p q : Pt2) : eqv (n + 1) (pN p) (pN q) = decide (p = q) := by
  simp [pN, eqv, eqL, Prod.ext_iff]
  rw [Bool.eq_iff_iff]
  simp
  omega
theorem eq_pN (p q : Pt2) : eqD (pN p) (pN q) = some (decide (p = q)) := by simp [eqD, lay_pN, eqv_pN]
theorem ne_pN (p q : Pt2) : neD (pN p) (pN q) = some (!decide (p = q)) := by simp [neD, lay_pN, eqv_pN]
theorem eq_int (a b : Int) : eqD (.int a) (.int b) = some (decide (a = b)) := by simp [eqD, lay, eqv]; rfl
theorem ne_int (a b : Int) : neD (.int a) (.int b) = some (!decide (a = b)) := by simp [neD, lay, eqv]; rfl
theorem len_lst (l : List D) : lenD [.lst l] = some (.int l.length) := rfl
theorem len_tup (l : List D) : lenD [.tup l] = some (.int l.length) := rfl
theorem ty_pN (p : Pt2) : ∃ l, pN p = .tup l ∧ l.length = 2 := ⟨_, rfl, rfl⟩
theorem is_tup_pN (p : Pt2) : isTy .tuple (pN p) = true := rfl
theorem is_tup_tD (w h : Nat) (f s : Pt2) : isTy .tuple (tD w h f s) = true := rfl
theorem len_pN (p : Pt2) : lenD [pN p] = some (.int 2) := rfl
theorem len_tD (w h : Nat) (f s : Pt2) : lenD [tD w h f s] = some (.int 4) := rfl

theorem set_tD (w h : Nat) (f s : Pt2) (l : List Nat) (ρ : Sto) : Tgt.set (.tp l) (tD w h f s) ρ = setAll l [.int w, .int h, pN f, pN s] ρ := rfl
theorem led_eval {w h : Nat} {f s a b : Pt2} (hw : 0 < w) (hh : 0 < h) : d__law_led [tD w h f s, pN a, pN b] = some (.ok (pN (ledP w h a b))) := by
  have hw' : w ≠ 0 := by omega
  have hh' : h ≠ 0 := by omega
  simp [d__law_led, g__law_led, runD, Dn.runN, runL, startL, retM, tupM, lstM, consM, bin2, M.bind, M.pure, M.lift, M.map, ixAt, pk, rd, ixHere, modD, addD, subD, mulD, divD, shlD, gI, start0, Slot.d?, Co.d, lenOk, andD, orD, notD, isiM, chainD, leD, ltD, gtD, geD, gB, isD, isntD, D.b?, Dn.andM, Dn.orM, Dn.notM, testB, testT, truD, callM, M.res, nArgs, seqS, ifM, setM, ownM, dropM, neverM, oneM, iteM, setAll, tgtM, par2, Pt.run, VC.slot, Dn.intD, int2, ix_p0, ix_p1, ix_t0, ix_t1, hw', hh', fmod_add, mk_pN]
  rfl
theorem gap_eval {w h : Nat} {f s : Pt2} (h1 : s.1 < w) (h2 : s.2 < h) : d__law_gap [tD w h f s] = some (.ok (pN (gapP w h f s))) := by
  have hw' : w ≠ 0 := by omega
  have hh' : h ≠ 0 := by omega
  simp [d__law_gap, g__law_gap, runD, Dn.runN, runL, startL, retM, tupM, lstM, consM, bin2, M.bind, M.pure, M.lift, M.map, ixAt, pk, rd, ixHere, modD, addD, subD, mulD, divD, shlD, gI, start0, Slot.d?, Co.d, lenOk, andD, orD, notD, isiM, chainD, leD, ltD, gtD, geD, gB, isD, isntD, D.b?, Dn.andM, Dn.orM, Dn.notM, testB, testT, truD, callM, M.res, nArgs, seqS, ifM, setM, ownM, dropM, neverM, oneM, iteM, setAll, tgtM, par2, Pt.run, VC.slot, Dn.intD, int2, ix_p0, ix_p1, ix_t0, ix_t1, ix_t2, ix_t3, hw', hh', fmod_sub h1, fmod_sub h2, mk_pN]
  rfl
theorem added_eval {w h : Nat} {f s a b : Pt2} (hw : 0 < w) (hh : 0 < h) : d_added [tD w h f s, pN a, pN b] = some (.ok (pN (ledP w h a b))) := led_eval hw hh
theorem sd_eval {w h : Nat} {f s : Pt2} (h1 : s.1 < w) (h2 : s.2 < h) : d_steps_difference [tD w h f s] = some (.ok (pN (gapP w h f s))) := by
  have hw' : w ≠ 0 := by omega
  have hh' : h ≠ 0 := by omega
  simp [d_steps_difference, g_steps_difference, runD, Dn.runN, runL, startL, retM, tupM, lstM, consM, bin2, M.bind, M.pure, M.lift, M.map, ixAt, pk, rd, ixHere, modD, addD, subD, mulD, divD, shlD, gI, start0, Slot.d?, Co.d, lenOk, andD, orD, notD, isiM, chainD, leD, ltD, gtD, geD, gB, isD, isntD, D.b?, Dn.andM, Dn.orM, Dn.notM, testB, testT, truD, callM, M.res, nArgs, seqS, ifM, setM, ownM, dropM, neverM, oneM, iteM, setAll, tgtM, par2, Pt.run, VC.slot, Dn.intD, int2, set_tD, List.set, ix_p0, ix_p1, ix_t0, ix_t1, ix_t2, ix_t3, hw', hh', fmod_sub h1, fmod_sub h2, mk_pN]
  rfl
theorem is_number_eval {i lo hi : Int} : d_is_number [.int i, .int lo, .int hi] = some (.ok (.bl (decide (lo ≤ i ∧ i ≤ hi)))) := by
  by_cases h1 : lo ≤ i <;> by_cases h2 : i ≤ hi <;>
  simp [d_is_number, g_is_number, runD, Dn.runN, runL, startL, retM, tupM, lstM, consM, bin2, M.bind, M.pure, M.lift, M.map, ixAt, pk, rd, ixHere, modD, addD, subD, mulD, divD, shlD, gI, start0, Slot.d?, Co.d, lenOk, andD, orD, notD, isiM, chainD, leD, ltD, gtD, geD, gB, isD, isntD, D.b?, Dn.andM, Dn.orM, Dn.notM, testB, testT, truD, callM, M.res, nArgs, seqS, ifM, setM, ownM, dropM, neverM, oneM, iteM, setAll, tgtM, par2, Pt.run, VC.slot, Dn.intD, int2, isTy, h1, h2]
theorem is_pair_eval {w h : Nat} {p : Pt2} (h1 : p.1 < w) (h2 : p.2 < h) : d_is_pair [pN p, .int w, .int h] = some (.ok (.bl true)) := by
  have a1 : (p.1 : Int) ≤ (w : Int) - 1 := by omega
  have a2 : (p.2 : Int) ≤ (h : Int) - 1 := by omega
  simp [d_is_pair, g_is_pair, runD, Dn.runN, runL, startL, retM, tupM, lstM, consM, bin2, M.bind, M.pure, M.lift, M.map, ixAt, pk, rd, ixHere, modD, addD, subD, mulD, divD, shlD, gI, start0, Slot.d?, Co.d, lenOk, andD, orD, notD, isiM, chainD, leD, ltD, gtD, geD, gB, isD, isntD, D.b?, Dn.andM, Dn.orM, Dn.notM, testB, testT, truD, callM, M.res, nArgs, seqS, ifM, setM, ownM, dropM, neverM, oneM, iteM, setAll, tgtM, par2, Pt.run, VC.slot, Dn.intD, int2, ix_p0, ix_p1, is_tup_pN, len_pN, ne_int, is_number_eval, a1, a2]
structure OkT (w h : Nat) (f s : Pt2) : Prop where
  w1 : 1 ≤ w
  w12 : w ≤ 12
  h1 : 1 ≤ h
  h12 : h ≤ 12
  big : 2 ≤ w * h
  most : w * h ≤ 144
  f1 : f.1 < w
  f2 : f.2 < h
  s1 : s.1 < w
  s2 : s.2 < h
  ne : f ≠ s
section
variable {w h : Nat} {f s : Pt2} (t : OkT w h f s)
include t
theorem sides_eval : d_are_sides [.int w, .int h] = some (.ok (.bl true)) := by
  have a1 := t.w1
  have a2 := t.w12
  have a3 := t.h1
  have a4 := t.h12
  have b1 : (1 : Int) ≤ (w : Int) := by omega
  have b2 : (w : Int) ≤ 12 := by omega
  have b3 : (1 : Int) ≤ (h : Int) := by omega
  have b4 : (h : Int) ≤ 12 := by omega
  by_cases c : (1 : Int) < (w : Int)
  · simp [d_are_sides, g_are_sides, runD, Dn.runN, runL, startL, retM, tupM, lstM, consM, bin2, M.bind, M.pure, M.lift, M.map, ixAt, pk, rd, ixHere, modD, addD, subD, mulD, divD, shlD, gI, start0, Slot.d?, Co.d, lenOk, andD, orD, notD, isiM, chainD, leD, ltD, gtD, geD, gB, isD, isntD, D.b?, Dn.andM, Dn.orM, Dn.notM, testB, testT, truD, callM, M.res, nArgs, seqS, ifM, setM, ownM, dropM, neverM, oneM, iteM, setAll, tgtM, par2, Pt.run, VC.slot, Dn.intD, int2, orD, is_number_eval, b1, b2, b3, b4, c]
  · have d : (1 : Int) < (h : Int) := by
      have := t.big
      have e : w = 1 := by omega
      subst e
      omega
    simp [d_are_sides, g_are_sides, runD, Dn.runN, runL, startL, retM, tupM, lstM, consM, bin2, M.bind, M.pure, M.lift, M.map, ixAt, pk, rd, ixHere, modD, addD, subD, mulD, divD, shlD, gI, start0, Slot.d?, Co.d, lenOk, andD, orD, notD, isiM, chainD, leD, ltD, gtD, geD, gB, isD, isntD, D.b?, Dn.andM, Dn.orM, Dn.notM, testB, testT, truD, callM, M.res, nArgs, seqS, ifM, setM, ownM, dropM, neverM, oneM, iteM, setAll, tgtM, par2, Pt.run, VC.slot, Dn.intD, int2, orD, is_number_eval, b1, b2, b3, b4, c, d]
theorem wrong_eval : d_wrong_part [tD w h f s] = some (.ok .non) := by
  have e : ¬ f = s := t.ne
  simp [d_wrong_part, g_wrong_part, runD, Dn.runN, runL, startL, retM, tupM, lstM, consM, bin2, M.bind, M.pure, M.lift, M.map, ixAt, pk, rd, ixHere, modD, addD, subD, mulD, divD, shlD, gI, start0, Slot.d?, Co.d, lenOk, andD, orD, notD, isiM, chainD, leD, ltD, gtD, geD, gB, isD, isntD, D.b?, Dn.andM, Dn.orM, Dn.notM, testB, testT, truD, callM, M.res, nArgs, seqS, ifM, setM, ownM, dropM, neverM, oneM, iteM, setAll, tgtM, par2, Pt.run, VC.slot, Dn.intD, int2, is_tup_tD, len_tD, set_tD, List.set, ne_int, sides_eval t, is_pair_eval t.f1 t.f2, is_pair_eval t.s1 t.s2, eq_pN, e]
theorem check_eval : d_check_town [tD w h f s] = some (.ok .non) := by
  simp [d_check_town, g_check_town, runD, Dn.runN, runL, startL, retM, tupM, lstM, consM, bin2, M.bind, M.pure, M.lift, M.map, ixAt, pk, rd, ixHere, modD, addD, subD, mulD, divD, shlD, gI, start0, Slot.d?, Co.d, lenOk, andD, orD, notD, isiM, chainD, leD, ltD, gtD, geD, gB, isD, isntD, D.b?, Dn.andM, Dn.orM, Dn.notM, testB, testT, truD, callM, M.res, nArgs, seqS, ifM, setM, ownM, dropM, neverM, oneM, iteM, setAll, tgtM, par2, Pt.run, VC.slot, Dn.intD, int2, List.set, wrong_eval t, D.isNon]
theorem checkC_eval {p : Pt2} (h1 : p.1 < w) (h2 : p.2 < h) : d_check_crossing [tD w h f s, pN p] = some (.ok .non) := by
  simp [d_check_crossing, g_check_crossing, runD, Dn.runN, runL, startL, retM, tupM, lstM, consM, bin2, M.bind, M.pure, M.lift, M.map, ixAt, pk, rd, ixHere, modD, addD, subD, mulD, divD, shlD, gI, start0, Slot.d?, Co.d, lenOk, andD, orD, notD, isiM, chainD, leD, ltD, gtD, geD, gB, isD, isntD, D.b?, Dn.andM, Dn.orM, Dn.notM, testB, testT, truD, callM, M.res, nArgs, seqS, ifM, setM, ownM, dropM, neverM, oneM, iteM, setAll, tgtM, par2, Pt.run, VC.slot, Dn.intD, int2, ix_t0, ix_t1, is_pair_eval h1 h2]
theorem ends_eval {p : Pt2} (h1 : p.1 < w) (h2 : p.2 < h) : d_ends [tD w h f s, pN p] = some (.ok (.tup [pN (ledP w h p f), pN (ledP w h p s)])) := by
  simp [d_ends, g_ends, runD, Dn.runN, runL, startL, retM, tupM, lstM, consM, bin2, M.bind, M.pure, M.lift, M.map, ixAt, pk, rd, ixHere, modD, addD, subD, mulD, divD, shlD, gI, start0, Slot.d?, Co.d, lenOk, andD, orD, notD, isiM, chainD, leD, ltD, gtD, geD, gB, isD, isntD, D.b?, Dn.andM, Dn.orM, Dn.notM, testB, testT, truD, callM, M.res, nArgs, seqS, ifM, setM, ownM, dropM, neverM, oneM, iteM, setAll, tgtM, par2, Pt.run, VC.slot, Dn.intD, int2, check_eval t, checkC_eval t h1 h2, ix_t2, ix_t3, added_eval t.w1 t.h1]
end
end K04

namespace K04
open Dn
def placesP (w h : Nat) : List Pt2 := (List.range w).flatMap fun x => (List.range h).map fun y => (x, y)
theorem mem_places {w h : Nat} {p : Pt2} : p ∈ placesP w h ↔ p.1 < w ∧ p.2 < h := by
  unfold placesP
  simp only [List.mem_flatMap, List.mem_map, List.mem_range]
  constructor
  · rintro ⟨x, hx, y, hy, rfl⟩
    exact ⟨hx, hy⟩
  · intro ⟨h1, h2⟩
    exact ⟨p.1, h1, p.2, h2, rfl⟩
theorem sum_const {α : Type} (c : Nat) : ∀ l : List α, (l.map fun _ => c).sum = l.length * c
  | [] => by simp
  | _ :: l => by rw [List.map_cons, List.sum_cons, sum_const c l, List.length_cons, Nat.succ_mul, Nat.add_comm]
theorem len_places (w h : Nat) : (placesP w h).length = w * h := by
  unfold placesP
  rw [List.length_flatMap]
  simp only [List.length_map, List.length_range]
  rw [sum_const, List.length_range]
theorem len_places_le {w h : Nat} (hw : w ≤ 100) (hh : h ≤ 100) : (placesP w h).length ≤ 10000 := by
  rw [len_places]
  have : w * h ≤ 100 * 100 := Nat.mul_le_mul hw hh
  omega
theorem rng_eval {n : Nat} (hn : n ≤ 100) : rng1 [.int n] = some ((List.range n).map fun (i : Nat) => D.int i) := by
  show (if -100000 ≤ (n : Int) ∧ (n : Int) ≤ 100000 then some (rangeL 0 (n : Int).toNat) else none) = _
  rw [if_pos (by omega), Int.toNat_natCast, rangeL0]
section
variable {w h : Nat} {f s : Pt2} (t : OkT w h f s)
include t
theorem crossings_eval : d_crossings [tD w h f s] = some (.ok (.lst ((placesP w h).map pN))) := by
  have h1 := t.w12
  have h2 := t.h12
  have e1 := rng_eval (n := w) (by omega)
  have e2 := rng_eval (n := h) (by omega)
  refine' runD_ret (retM_ok (map_ok (lc2_ok (ρ1 := [.val (tD w h f s), .emp, .emp]) (ds := (List.range w).map fun (i : Nat) => D.int i) ?a ?b)))
  case a => simp [rngM, runD, Dn.runN, runL, startL, retM, tupM, lstM, consM, bin2, M.bind, M.pure, M.lift, M.map, ixAt, pk, rd, ixHere, modD, addD, subD, mulD, divD, shlD, gI, start0, Slot.d?, Co.d, lenOk, andD, orD, notD, isiM, chainD, leD, ltD, gtD, geD, gB, isD, isntD, D.b?, Dn.andM, Dn.orM, Dn.notM, testB, testT, truD, callM, M.res, nArgs, seqS, ifM, setM, ownM, dropM, neverM, oneM, iteM, setAll, tgtM, par2, Pt.run, VC.slot, Dn.intD, int2, ix_t0, e1]
  case b =>
    have := lc2_runs (vs := [1, 2]) (vs1 := [2]) (t := .nm 1) (t1 := .nm 2) (fs1 := i_crossings_0) (f := e_crossings_0) (ρ := [.val (tD w h f s), .emp, .emp]) (fun (i : Nat) => D.int i) (fun _ => List.range h) (fun (i : Nat) => D.int i) (fun x y => pN (x, y)) (List.range w) [] (fun b _ => ?_) ?_
    · refine this.trans ?_
      rw [List.nil_append]
      unfold placesP
      rw [List.map_flatMap]
      simp only [List.map_map]
      rfl
    · refine ⟨_, [.val (tD w h f s), .val (.int b), .emp], rfl, ?_, rfl, fun y _ => ⟨_, _, rfl, rfl, rfl⟩⟩
      simp [i_crossings_0, rngM, runD, Dn.runN, runL, startL, retM, tupM, lstM, consM, bin2, M.bind, M.pure, M.lift, M.map, ixAt, pk, rd, ixHere, modD, addD, subD, mulD, divD, shlD, gI, start0, Slot.d?, Co.d, lenOk, andD, orD, notD, isiM, chainD, leD, ltD, gtD, geD, gB, isD, isntD, D.b?, Dn.andM, Dn.orM, Dn.notM, testB, testT, truD, callM, M.res, nArgs, seqS, ifM, setM, ownM, dropM, neverM, oneM, iteM, setAll, tgtM, par2, Pt.run, VC.slot, Dn.intD, int2, ix_t1, e2, Tgt.set, List.set]
    · have : ((List.range w).flatMap fun _ => List.range h).length = w * h := by
        rw [List.length_flatMap, List.length_range, sum_const, List.length_range]
      have : w * h ≤ 144 := t.most
      simp only [List.length_nil]
      omega
end
end K04

namespace K04
open Dn
/-! ### steps in a row -/
def atP (w h : Nat) (d p : Pt2) (k : Nat) : Pt2 := ((p.1 + k * d.1) % w, (p.2 + k * d.2) % h)
def ordP (w h : Nat) (d : Pt2) : Nat := Nat.lcm (w / Nat.gcd w d.1) (h / Nat.gcd h d.2)
theorem dvd_mul_iff {w a k : Nat} (hw : 0 < w) : w ∣ k * a ↔ w / Nat.gcd w a ∣ k := by
  have hg : 0 < Nat.gcd w a := Nat.gcd_pos_of_pos_left _ hw
  obtain ⟨w', hw'⟩ := Nat.gcd_dvd_left w a
  obtain ⟨a', ha'⟩ := Nat.gcd_dvd_right w a
  have e : w / Nat.gcd w a = w' := by
    conv => lhs; lhs; rw [hw']
    exact Nat.mul_div_cancel_left _ hg
  rw [e]
  have co : Nat.Coprime w' a' := by
    have := Nat.coprime_div_gcd_div_gcd hg
    have e2 : a / Nat.gcd w a = a' := by
      conv => lhs; lhs; rw [ha']
      exact Nat.mul_div_cancel_left _ hg
    rwa [e, e2] at this
  constructor
  · intro hd
    have h2 : Nat.gcd w a * w' ∣ Nat.gcd w a * (k * a') := by
      have e3 : Nat.gcd w a * (k * a') = k * a := by
        rw [Nat.mul_left_comm, ← ha']
      rw [e3, ← hw']
      exact hd
    exact co.dvd_of_dvd_mul_right (Nat.dvd_of_mul_dvd_mul_left hg h2)
  · rintro ⟨j, rfl⟩
    refine ⟨j * a', ?_⟩
    conv => lhs; rw [ha']
    conv => rhs; rw [hw']
    simp only [Nat.mul_assoc, Nat.mul_left_comm, Nat.mul_comm]
theorem add_mod_self_iff {p x w : Nat} (hp : p < w) : (p + x) % w = p ↔ w ∣ x := by
  constructor
  · intro e
    have := Nat.div_add_mod (p + x) w
    rw [e] at this
    exact ⟨(p + x) / w, by omega⟩
  · rintro ⟨j, rfl⟩
    rw [Nat.add_mul_mod_self_left, Nat.mod_eq_of_lt hp]
section
variable {w h : Nat} {d p : Pt2}
theorem ord_pos (hw : 0 < w) (hh : 0 < h) : 0 < ordP w h d :=
  Nat.lcm_pos (Nat.div_pos (Nat.gcd_le_left _ hw) (Nat.gcd_pos_of_pos_left _ hw)) (Nat.div_pos (Nat.gcd_le_left _ hh) (Nat.gcd_pos_of_pos_left _ hh))
theorem ord_le (hw : 0 < w) (hh : 0 < h) : ordP w h d ≤ w * h := by
  have h1 : w / Nat.gcd w d.1 ≤ w := Nat.div_le_self _ _
  have h2 : h / Nat.gcd h d.2 ≤ h := Nat.div_le_self _ _
  refine Nat.le_trans (Nat.le_of_dvd ?_ (Nat.lcm_dvd_mul _ _)) (Nat.mul_le_mul h1 h2)
  exact Nat.mul_pos (Nat.div_pos (Nat.gcd_le_left _ hw) (Nat.gcd_pos_of_pos_left _ hw)) (Nat.div_pos (Nat.gcd_le_left _ hh) (Nat.gcd_pos_of_pos_left _ hh))
theorem at_iff (hw : 0 < w) (hh : 0 < h) (h1 : p.1 < w) (h2 : p.2 < h) {k : Nat} : atP w h d p k = p ↔ ordP w h d ∣ k := by
  unfold atP ordP
  rw [Prod.ext_iff, add_mod_self_iff h1, add_mod_self_iff h2, dvd_mul_iff hw, dvd_mul_iff hh, Nat.lcm_dvd_iff]
theorem at_zero (h1 : p.1 < w) (h2 : p.2 < h) : atP w h d p 0 = p := by
  unfold atP
  rw [Nat.zero_mul, Nat.zero_mul, Nat.add_zero, Nat.add_zero, Nat.mod_eq_of_lt h1, Nat.mod_eq_of_lt h2]
theorem led_at {k : Nat} : ledP w h (atP w h d p k) d = atP w h d p (k + 1) := by
  unfold ledP atP
  simp only [Nat.mod_add_mod, Nat.add_mul, Nat.one_mul, Nat.add_assoc]
theorem at_lt1 (hw : 0 < w) {k : Nat} : (atP w h d p k).1 < w := Nat.mod_lt _ hw
theorem at_lt2 (hh : 0 < h) {k : Nat} : (atP w h d p k).2 < h := Nat.mod_lt _ hh
theorem led_at0 {k : Nat} : ledP w h p (atP w h d (0, 0) k) = atP w h d p k := by
  unfold ledP atP
  simp only [Nat.add_mod_mod, Nat.zero_add]
def rowP (w h : Nat) (d p : Pt2) : List Pt2 := (List.range (ordP w h d)).map (atP w h d p)
def rowTo (w h : Nat) (d p : Pt2) (k : Nat) : List Pt2 := (List.range k).map (atP w h d p)
theorem rowTo_succ {k : Nat} : rowTo w h d p k ++ [atP w h d p k] = rowTo w h d p (k + 1) := by
  unfold rowTo
  rw [List.range_succ, List.map_append]
  rfl
/-- the whiles of lots and rows end at the order -/
theorem at_ne (hw : 0 < w) (hh : 0 < h) (h1 : p.1 < w) (h2 : p.2 < h) {k : Nat} (hk : 0 < k) (hk2 : k < ordP w h d) : atP w h d p k ≠ p := fun e => by
  have := Nat.le_of_dvd hk ((at_iff hw hh h1 h2).mp e)
  omega
theorem at_ord (hw : 0 < w) (hh : 0 < h) (h1 : p.1 < w) (h2 : p.2 < h) : atP w h d p (ordP w h d) = p := (at_iff hw hh h1 h2).mpr (Nat.dvd_refl _)
end
theorem push_own {i : Nat} {ρ : Sto} {ds : List D} {d : D} {b : Bool} (h : ρ[i]? = some (.own b (.lst ds))) (hl : ds.length ≤ 100000) : Dn.push i d ρ = some (.ok .non (ρ.set i (.own b (.lst (ds ++ [d]))))) := by
  unfold Dn.push
  rw [h]
  simp [hl]
end K04

namespace K04
open Dn
theorem lcmI_eval {a b : Nat} (ha : a < 1000) (hb : b < 1000) : lcmI (a : Int) (b : Int) = some (((Nat.lcm a b : Nat) : Int)) := by
  unfold lcmI
  rw [if_pos (by simp only [Int.natAbs_natCast]; exact ⟨ha, hb⟩)]
  simp only [Int.natAbs_natCast, Nat.lcm_one_left]
theorem div_eval {a b : Nat} (hb : 0 < b) (hb2 : b < 1073741824) : divD (.int (a : Int)) (.int (b : Int)) = some (.int (((a / b : Nat) : Int))) := by
  unfold divD gI
  have h1 : (b : Int) ≠ 0 := by omega
  have h2 : ((b : Int)).natAbs < 1073741824 := by omega
  simp only [h1, h2, ne_eq, not_false_eq_true, and_self, decide_true, if_true]
  rw [Int.fdiv_eq_ediv_of_nonneg _ (Int.natCast_nonneg b)]
  rfl
theorem mul_eval {a b : Nat} (ha : a < 1000) : mulD (.int (a : Int)) (.int (b : Int)) = some (.int (((a * b : Nat) : Int))) := by
  unfold mulD gI
  have h1 : (-(2 ^ 64) < (a : Int) ∧ (a : Int) < 2 ^ 64) := by omega
  have h2 : decide ((-(2 ^ 64) < (a : Int) ∧ (a : Int) < 2 ^ 64) ∨ (-(2 ^ 64) < (b : Int) ∧ (b : Int) < 2 ^ 64)) = true := decide_eq_true (Or.inl h1)
  simp only [h2, if_true]
  rw [Int.natCast_mul]
theorem gcd_eval {a b : Nat} : int2 gcdI [.int (a : Int), .int (b : Int)] = some (.int ((Nat.gcd a b : Nat) : Int)) := by
  simp [int2, gcdI]
section
variable {w h : Nat} {f s : Pt2} (t : OkT w h f s)
include t
theorem OkT.wh : w * h ≤ 144 ∧ 0 < w ∧ 0 < h := ⟨t.most, t.w1, t.h1⟩
theorem row_eval {d : Pt2} (h1 : d.1 < w) (h2 : d.2 < h) : d__law_row [tD w h f s, pN d] = some (.ok (.lst ((rowP w h d (0, 0)).map pN))) := by
  have hw : 0 < w := t.w1
  have hh : 0 < h := t.h1
  have hL : ordP w h d ≤ 144 := Nat.le_trans (ord_le hw hh) t.most
  have hL0 := ord_pos (d := d) hw hh
  have e1 : ledP w h (0, 0) d = atP w h d (0, 0) 1 := by
    have := led_at (w := w) (h := h) (d := d) (p := (0, 0)) (k := 0)
    rwa [at_zero hw hh] at this
  let Inv : Nat → Sto → Prop := fun k ρ => 1 ≤ k ∧ ρ = [.val (tD w h f s), .val (pN d), .own false (.lst ((rowTo w h d (0, 0) k).map pN)), .val (pN (atP w h d (0, 0) k))]
  obtain ⟨ρ', e, -, I⟩ := while_count (t := t__law_row_0) (g := w__law_row_0) Inv (ordP w h d) (fun k ρ hk ⟨k1, I⟩ => by
      subst I
      have z := at_ne (w := w) (h := h) (d := d) (p := (0, 0)) hw hh hw hh k1 hk
      refine ⟨[.val (tD w h f s), .val (pN d), .own false (.lst ((rowTo w h d (0, 0) k).map pN)), .val (pN (atP w h d (0, 0) k))], _, ?_, seq_nx (drop_ok (bind_ok rfl (bind_ok rfl (push_own (i := 2) rfl ?_)))) (set_ok (ρ1 := [.val (tD w h f s), .val (pN d), .own false (.lst ((rowTo w h d (0, 0) (k + 1)).map pN)), .val (pN (atP w h d (0, 0) k))]) (d := pN (atP w h d (0, 0) (k + 1))) ?_), by omega, rfl⟩
      · simp [t__law_row_0, runD, Dn.runN, runL, startL, retM, tupM, lstM, consM, bin2, M.bind, M.pure, M.lift, M.map, ixAt, pk, rd, ixHere, modD, addD, subD, mulD, divD, shlD, gI, start0, Slot.d?, Co.d, lenOk, andD, orD, notD, isiM, chainD, leD, ltD, gtD, geD, gB, isD, isntD, D.b?, Dn.andM, Dn.orM, Dn.notM, testB, testT, truD, callM, M.res, nArgs, seqS, ifM, setM, ownM, dropM, neverM, oneM, iteM, setAll, tgtM, par2, Pt.run, VC.slot, Dn.intD, int2, mk_p0, ne_pN, z]
      · simp only [List.length_map, rowTo, List.length_range]
        omega
      · simp [runD, Dn.runN, runL, startL, retM, tupM, lstM, consM, bin2, M.bind, M.pure, M.lift, M.map, ixAt, pk, rd, ixHere, modD, addD, subD, mulD, divD, shlD, gI, start0, Slot.d?, Co.d, lenOk, andD, orD, notD, isiM, chainD, leD, ltD, gtD, geD, gB, isD, isntD, D.b?, Dn.andM, Dn.orM, Dn.notM, testB, testT, truD, callM, M.res, nArgs, seqS, ifM, setM, ownM, dropM, neverM, oneM, iteM, setAll, tgtM, par2, Pt.run, VC.slot, Dn.intD, int2, List.set, led_eval hw hh, led_at, ← rowTo_succ])
    (fun ρ ⟨k1, I⟩ => by
      subst I
      have z := at_ord (w := w) (h := h) (d := d) (p := (0, 0)) hw hh hw hh
      refine ⟨_, ?_, k1, rfl⟩
      simp [t__law_row_0, runD, Dn.runN, runL, startL, retM, tupM, lstM, consM, bin2, M.bind, M.pure, M.lift, M.map, ixAt, pk, rd, ixHere, modD, addD, subD, mulD, divD, shlD, gI, start0, Slot.d?, Co.d, lenOk, andD, orD, notD, isiM, chainD, leD, ltD, gtD, geD, gB, isD, isntD, D.b?, Dn.andM, Dn.orM, Dn.notM, testB, testT, truD, callM, M.res, nArgs, seqS, ifM, setM, ownM, dropM, neverM, oneM, iteM, setAll, tgtM, par2, Pt.run, VC.slot, Dn.intD, int2, mk_p0, ne_pN, z]) 5000 1 _ hL0 (by omega) ⟨Nat.le_refl _, rfl⟩
  subst I
  refine runD_ret (seq_nx (ρ1 := [.val (tD w h f s), .val (pN d), .own false (.lst ((rowTo w h d (0, 0) 1).map pN)), .val (pN (atP w h d (0, 0) 1))]) ?_ (seq_nx e (retM_ok rfl)))
  simp [runD, Dn.runN, runL, startL, retM, tupM, lstM, consM, bin2, M.bind, M.pure, M.lift, M.map, ixAt, pk, rd, ixHere, modD, addD, subD, mulD, divD, shlD, gI, start0, Slot.d?, Co.d, lenOk, andD, orD, notD, isiM, chainD, leD, ltD, gtD, geD, gB, isD, isntD, D.b?, Dn.andM, Dn.orM, Dn.notM, testB, testT, truD, callM, M.res, nArgs, seqS, ifM, setM, ownM, dropM, neverM, oneM, iteM, setAll, tgtM, par2, Pt.run, VC.slot, Dn.intD, int2, List.set, mk_p0, led_eval hw hh, e1, rowTo, at_zero (d := d) (p := (0, 0)) hw hh]
theorem lot_from_eval {p : Pt2} (h1 : p.1 < w) (h2 : p.2 < h) : d_lot_from [tD w h f s, pN p] = some (.ok (.lst ((rowP w h (gapP w h f s) p).map pN))) := by
  have hw : 0 < w := t.w1
  have hh : 0 < h := t.h1
  let d := gapP w h f s
  have hL : ordP w h d ≤ 144 := Nat.le_trans (ord_le hw hh) t.most
  have hL0 := ord_pos (d := d) hw hh
  have e1 : ledP w h p d = atP w h d p 1 := by
    have := led_at (w := w) (h := h) (d := d) (p := p) (k := 0)
    rwa [at_zero h1 h2] at this
  let Inv : Nat → Sto → Prop := fun k ρ => 1 ≤ k ∧ ρ = [.val (tD w h f s), .val (pN p), .val (pN d), .own false (.lst ((rowTo w h d p k).map pN)), .val (pN (atP w h d p k))]
  obtain ⟨ρ', e, -, I⟩ := while_count (t := t_lot_from_0) (g := w_lot_from_0) Inv (ordP w h d) (fun k ρ hk ⟨k1, I⟩ => by
      subst I
      have z := at_ne (w := w) (h := h) (d := d) (p := p) hw hh h1 h2 k1 hk
      refine ⟨[.val (tD w h f s), .val (pN p), .val (pN d), .own false (.lst ((rowTo w h d p k).map pN)), .val (pN (atP w h d p k))], _, ?_, seq_nx (drop_ok (bind_ok rfl (bind_ok rfl (push_own (i := 3) rfl ?_)))) (set_ok (ρ1 := [.val (tD w h f s), .val (pN p), .val (pN d), .own false (.lst ((rowTo w h d p (k + 1)).map pN)), .val (pN (atP w h d p k))]) (d := pN (atP w h d p (k + 1))) ?_), by omega, rfl⟩
      · simp [t_lot_from_0, runD, Dn.runN, runL, startL, retM, tupM, lstM, consM, bin2, M.bind, M.pure, M.lift, M.map, ixAt, pk, rd, ixHere, modD, addD, subD, mulD, divD, shlD, gI, start0, Slot.d?, Co.d, lenOk, andD, orD, notD, isiM, chainD, leD, ltD, gtD, geD, gB, isD, isntD, D.b?, Dn.andM, Dn.orM, Dn.notM, testB, testT, truD, callM, M.res, nArgs, seqS, ifM, setM, ownM, dropM, neverM, oneM, iteM, setAll, tgtM, par2, Pt.run, VC.slot, Dn.intD, int2, ne_pN, z]
      · simp only [List.length_map, rowTo, List.length_range]
        omega
      · simp [runD, Dn.runN, runL, startL, retM, tupM, lstM, consM, bin2, M.bind, M.pure, M.lift, M.map, ixAt, pk, rd, ixHere, modD, addD, subD, mulD, divD, shlD, gI, start0, Slot.d?, Co.d, lenOk, andD, orD, notD, isiM, chainD, leD, ltD, gtD, geD, gB, isD, isntD, D.b?, Dn.andM, Dn.orM, Dn.notM, testB, testT, truD, callM, M.res, nArgs, seqS, ifM, setM, ownM, dropM, neverM, oneM, iteM, setAll, tgtM, par2, Pt.run, VC.slot, Dn.intD, int2, List.set, added_eval hw hh, led_at, ← rowTo_succ])
    (fun ρ ⟨k1, I⟩ => by
      subst I
      have z := at_ord (w := w) (h := h) (d := d) (p := p) hw hh h1 h2
      refine ⟨_, ?_, k1, rfl⟩
      simp [t_lot_from_0, runD, Dn.runN, runL, startL, retM, tupM, lstM, consM, bin2, M.bind, M.pure, M.lift, M.map, ixAt, pk, rd, ixHere, modD, addD, subD, mulD, divD, shlD, gI, start0, Slot.d?, Co.d, lenOk, andD, orD, notD, isiM, chainD, leD, ltD, gtD, geD, gB, isD, isntD, D.b?, Dn.andM, Dn.orM, Dn.notM, testB, testT, truD, callM, M.res, nArgs, seqS, ifM, setM, ownM, dropM, neverM, oneM, iteM, setAll, tgtM, par2, Pt.run, VC.slot, Dn.intD, int2, ne_pN, z]) 5000 1 _ hL0 (by omega) ⟨Nat.le_refl _, rfl⟩
  subst I
  refine runD_ret (seq_nx (ρ1 := [.val (tD w h f s), .val (pN p), .val (pN d), .emp, .emp]) ?_ (seq_nx (ρ1 := [.val (tD w h f s), .val (pN p), .val (pN d), .own false (.lst ((rowTo w h d p 1).map pN)), .emp]) ?_ (seq_nx (ρ1 := [.val (tD w h f s), .val (pN p), .val (pN d), .own false (.lst ((rowTo w h d p 1).map pN)), .val (pN (atP w h d p 1))]) ?_ (seq_nx e (retM_ok rfl)))))
  · simp [runD, Dn.runN, runL, startL, retM, tupM, lstM, consM, bin2, M.bind, M.pure, M.lift, M.map, ixAt, pk, rd, ixHere, modD, addD, subD, mulD, divD, shlD, gI, start0, Slot.d?, Co.d, lenOk, andD, orD, notD, isiM, chainD, leD, ltD, gtD, geD, gB, isD, isntD, D.b?, Dn.andM, Dn.orM, Dn.notM, testB, testT, truD, callM, M.res, nArgs, seqS, ifM, setM, ownM, dropM, neverM, oneM, iteM, setAll, tgtM, par2, Pt.run, VC.slot, Dn.intD, int2, List.set, sd_eval t.s1 t.s2, d]
  · simp [runD, Dn.runN, runL, startL, retM, tupM, lstM, consM, bin2, M.bind, M.pure, M.lift, M.map, ixAt, pk, rd, ixHere, modD, addD, subD, mulD, divD, shlD, gI, start0, Slot.d?, Co.d, lenOk, andD, orD, notD, isiM, chainD, leD, ltD, gtD, geD, gB, isD, isntD, D.b?, Dn.andM, Dn.orM, Dn.notM, testB, testT, truD, callM, M.res, nArgs, seqS, ifM, setM, ownM, dropM, neverM, oneM, iteM, setAll, tgtM, par2, Pt.run, VC.slot, Dn.intD, int2, List.set, rowTo, at_zero h1 h2]
  · simp [runD, Dn.runN, runL, startL, retM, tupM, lstM, consM, bin2, M.bind, M.pure, M.lift, M.map, ixAt, pk, rd, ixHere, modD, addD, subD, mulD, divD, shlD, gI, start0, Slot.d?, Co.d, lenOk, andD, orD, notD, isiM, chainD, leD, ltD, gtD, geD, gB, isD, isntD, D.b?, Dn.andM, Dn.orM, Dn.notM, testB, testT, truD, callM, M.res, nArgs, seqS, ifM, setM, ownM, dropM, neverM, oneM, iteM, setAll, tgtM, par2, Pt.run, VC.slot, Dn.intD, int2, List.set, added_eval hw hh, e1]
theorem order_eval {p : Pt2} (h1 : p.1 < w) (h2 : p.2 < h) : d_order [tD w h f s, pN p] = some (.ok (.int (ordP w h p))) := by
  have hw : 0 < w := t.w1
  have hh : 0 < h := t.h1
  have a1 := t.w12
  have a2 := t.h12
  have g1 := Nat.gcd_pos_of_pos_left p.1 hw
  have g2 := Nat.gcd_pos_of_pos_left p.2 hh
  have g3 := Nat.gcd_le_left p.1 hw
  have g4 := Nat.gcd_le_left p.2 hh
  have l1 : w / Nat.gcd w p.1 ≤ w := Nat.div_le_self _ _
  have l2 : h / Nat.gcd h p.2 ≤ h := Nat.div_le_self _ _
  have q1 := div_eval (a := w) g1 (by omega)
  have q2 := div_eval (a := h) g2 (by omega)
  have q3 := lcmI_eval (a := w / Nat.gcd w p.1) (b := h / Nat.gcd h p.2) (by omega) (by omega)
  simp only [d_order, g_order, runD, seqS, dropM, callM, consM, M.bind, M.pure, M.res, nArgs, M.lift, M.map, rd, start0, par2, Pt.run, VC.slot, ixAt, pk, ixHere, Slot.d?, retM, check_eval t, checkC_eval t h1 h2, ix_p0, ix_p1, ix_t0, ix_t1, gcd_eval, List.map_cons, List.map_nil, List.length_cons, List.length_nil, List.replicate, List.append_eq, List.cons_append, List.nil_append, List.getElem?_cons_zero, List.getElem?_cons_succ, Option.map_some, List.set_cons_zero, List.set_cons_succ, bin2, if_true, q1, q2]
  simp [-Int.natCast_ediv, q1, q2, gcd_eval, int2, q3, ordP, bin2, M.bind, M.lift, M.pure, consM, rd, ixAt, pk, ixHere, Slot.d?, ix_p0, ix_p1]
end
end K04

namespace K04
open Dn
/-! ### sorted rows -/
def toZ (p : Pt2) : Int × Int := (p.1, p.2)
theorem toZ_inj {p q : Pt2} (h : toZ p = toZ q) : p = q := by
  unfold toZ at h
  have h1 := congrArg Prod.fst h
  have h2 := congrArg Prod.snd h
  exact Prod.ext (Int.ofNat_inj.mp h1) (Int.ofNat_inj.mp h2)
theorem pN_pD (p : Pt2) : pN p = pD (toZ p) := rfl
def srtZ (l : List Pt2) : List (Int × Int) := isort leP (l.map toZ)
def srt (l : List Pt2) : List D := (srtZ l).map pD
theorem sortD_pN {l : List Pt2} (hl : l ≠ []) : sortD [.lst (l.map pN)] = some (.lst (srt l)) := by
  have e : l.map pN = (l.map toZ).map pD := by rw [List.map_map]; rfl
  have n : intsOf (l.map pN) = none := by
    cases l with
    | nil => exact absurd rfl hl
    | cons a l => rfl
  show (sortL (l.map pN)).map Co.lst = _
  unfold sortL
  rw [n]
  simp only
  rw [e, pairsOf_map]
  rfl
theorem srt_perm {l m : List Pt2} (h : l.Perm m) : srt l = srt m := by
  unfold srt srtZ
  refine congrArg _ (sorted_uniq (le := fun a b => leP a b = true) leP_anti ?_ (isort_sorted leP_tot leP_tr _) (isort_sorted leP_tot leP_tr _))
  exact (isort_perm _).trans ((h.map toZ).trans (isort_perm _).symm)
theorem pD_inj {a b : Int × Int} (h : pD a = pD b) : a = b := by
  unfold pD at h
  cases a
  cases b
  cases h
  rfl
theorem srt_mem {l m : List Pt2} (h : srt l = srt m) {p : Pt2} (hp : p ∈ l) : p ∈ m := by
  have e : srtZ l = srtZ m := by
    have z : ∀ (x y : List (Int × Int)), x.map pD = y.map pD → x = y := by
      intro x
      induction x with
      | nil => intro y hy; cases y with
        | nil => rfl
        | cons b y => cases hy
      | cons a x ih => intro y hy; cases y with
        | nil => cases hy
        | cons b y =>
          rw [List.map_cons, List.map_cons, List.cons.injEq] at hy
          rw [pD_inj hy.1, ih y hy.2]
    exact z _ _ h
  have h1 : (l.map toZ).Perm (m.map toZ) := by
    refine (isort_perm (le := leP) _).symm.trans ?_
    show (srtZ l).Perm _
    rw [e]
    exact isort_perm _
  have h2 := h1.mem_iff.mp (List.mem_map_of_mem (f := toZ) hp)
  obtain ⟨q, hq, eq⟩ := List.mem_map.mp h2
  rw [← toZ_inj eq]
  exact hq
theorem srt_len (l : List Pt2) : (srt l).length = l.length := by
  unfold srt srtZ
  rw [List.length_map, (isort_perm _).length_eq, List.length_map]
theorem lay_srt (n : Nat) (l : List Pt2) : (srt l).all (lay (n + 1)) = true := by
  unfold srt
  rw [List.all_eq_true]
  intro d hd
  obtain ⟨z, _, rfl⟩ := List.mem_map.mp hd
  simp [pD, lay]
theorem eqL_pD (n : Nat) : ∀ x y : List (Int × Int), eqL (eqv (n + 1)) (x.map pD) (y.map pD) = decide (x = y)
  | [], [] => rfl
  | [], _ :: _ => rfl
  | _ :: _, [] => rfl
  | a :: x, b :: y => by
    rw [List.map_cons, List.map_cons]
    unfold eqL
    rw [eqL_pD n x y]
    have : eqv (n + 1) (pD a) (pD b) = decide (a = b) := by
      rw [Bool.eq_iff_iff]
      simp [pD, eqv, eqL, Prod.ext_iff]
    rw [this, Bool.eq_iff_iff]
    simp
theorem map_pD_iff {x y : List (Int × Int)} : x.map pD = y.map pD ↔ x = y := ⟨fun h => by
  induction x generalizing y with
  | nil => cases y with
    | nil => rfl
    | cons b y => cases h
  | cons a x ih => cases y with
    | nil => cases h
    | cons b y =>
      rw [List.map_cons, List.map_cons, List.cons.injEq] at h
      rw [pD_inj h.1, ih h.2], fun h => by rw [h]⟩
theorem eqv_srt (l m : List Pt2) : eqv 9 (.tup (srt l)) (.tup (srt m)) = decide (srtZ l = srtZ m) := by
  show eqL (eqv 8) (srt l) (srt m) = _
  unfold srt
  rw [eqL_pD 7]
/-- not in, among sorted rows -/
theorem ni_srt {α : Type} (l : List Pt2) (g : α → List Pt2) (S : List α) : niD (.tup (srt l)) (.lst (S.map fun s => .tup (srt (g s)))) = some (!decide (∃ s ∈ S, srtZ (g s) = srtZ l)) := by
  have h1 : lay 9 (.tup (srt l)) = true := lay_srt 7 l
  have h2 : (S.map fun s => D.tup (srt (g s))).all (lay 9) = true := by
    rw [List.all_eq_true]
    intro d hd
    obtain ⟨s, _, rfl⟩ := List.mem_map.mp hd
    exact lay_srt 7 _
  unfold niD inD
  simp only [h1, h2, Bool.and_self, if_true, Option.map_some]
  congr 2
  rw [Bool.eq_iff_iff, List.any_map, List.any_eq_true, decide_eq_true_iff]
  simp only [Function.comp, eqv_srt, decide_eq_true_iff]
/-- not in, among crossings -/
theorem ni_pN (p : Pt2) (l : List Pt2) : niD (pN p) (.lst (l.map pN)) = some (!decide (p ∈ l)) := by
  have h2 : (l.map pN).all (lay 9) = true := by
    rw [List.all_eq_true]
    intro d hd
    obtain ⟨s, _, rfl⟩ := List.mem_map.mp hd
    exact lay_pN 8 s
  unfold niD inD
  simp only [lay_pN 8, h2, Bool.and_self, if_true, Option.map_some]
  congr 2
  rw [Bool.eq_iff_iff, List.any_map, List.any_eq_true, decide_eq_true_iff]
  simp only [Function.comp, eqv_pN 8, decide_eq_true_iff]
  constructor
  · rintro ⟨q, hq, rfl⟩
    exact hq
  · intro h
    exact ⟨p, h, rfl⟩
/-! ### a dict of crossings -/
def kP (p : Pt2) : List L2.Key := [Sum.inl p.1, Sum.inl p.2]
theorem kP_inj {p q : Pt2} (h : kP p = kP q) : p = q := by
  unfold kP at h
  simp only [List.cons.injEq, Sum.inl.injEq, and_true] at h
  exact Prod.ext (by omega) (by omega)
theorem keyT_pN (p : Pt2) : keyT (pN p) = some (kP p) := rfl
theorem kTD_kP (p : Pt2) : kTD (kP p) = pN p := rfl
def dP (l : List Pt2) : Co := .dT (l.map fun p => (kP p, D.bl true))
theorem look_kP (p : Pt2) : ∀ l : List Pt2, (look keyT (l.map fun q => kTD (kP q)) (l.map fun _ => D.bl true) (kP p)).isSome = decide (p ∈ l)
  | [] => rfl
  | q :: l => by
    rw [List.map_cons, List.map_cons]
    unfold look
    rw [kTD_kP, keyT_pN]
    by_cases e : kP q = kP p
    · rw [if_pos (by rw [e])]
      simp [kP_inj e]
    · rw [if_neg (fun h => e (Option.some.inj h)), look_kP p l]
      have : p ≠ q := fun h => e (by rw [h])
      simp [this]
theorem ni_dP (p : Pt2) (l : List Pt2) : niD (pN p) (dP l).d = some (!decide (p ∈ l)) := by
  unfold niD inD dP Co.d dget
  simp only [keyT_pN, Option.map_some, List.map_map, Function.comp_def]
  rw [look_kP]
theorem put_dP {p : Pt2} {l : List Pt2} (hp : p ∉ l) (hl : l.length ≤ 100000) : putC (pN p) (.bl true) (dP l) = some (dP (l ++ [p])) := by
  unfold putC dP
  simp only [List.length_map, hl, if_true, keyT_pN, Option.map_some]
  congr 1
  unfold putL
  rw [if_neg, List.map_append]
  · rfl
  · rw [List.any_eq_true]
    rintro ⟨e, he, hk⟩
    obtain ⟨q, hq, rfl⟩ := List.mem_map.mp he
    have := kP_inj (of_decide_eq_true hk)
    subst this
    exact hp hq
theorem len_dP (l : List Pt2) : lenD [(dP l).d] = some (.int l.length) := by
  unfold dP Co.d lenD
  simp
/-! ### rows of one another -/
section
variable {w h : Nat} {d p q r : Pt2}
theorem at_add {k j : Nat} : atP w h d (atP w h d p k) j = atP w h d p (k + j) := by
  unfold atP
  simp only [Nat.mod_add_mod, Nat.add_mul, Nat.add_assoc]
theorem at_mod (hw : 0 < w) (hh : 0 < h) (h1 : p.1 < w) (h2 : p.2 < h) (k : Nat) : atP w h d p (k % ordP w h d) = atP w h d p k := by
  have e : atP w h d p (ordP w h d * (k / ordP w h d)) = p := (at_iff hw hh h1 h2).mpr ⟨_, rfl⟩
  have z := at_add (w := w) (h := h) (d := d) (p := p) (k := ordP w h d * (k / ordP w h d)) (j := k % ordP w h d)
  rw [e, Nat.div_add_mod] at z
  exact z
theorem mem_row (hw : 0 < w) (hh : 0 < h) (h1 : p.1 < w) (h2 : p.2 < h) : q ∈ rowP w h d p ↔ ∃ k, atP w h d p k = q := by
  unfold rowP
  rw [List.mem_map]
  constructor
  · rintro ⟨k, _, e⟩
    exact ⟨k, e⟩
  · rintro ⟨k, e⟩
    exact ⟨k % ordP w h d, List.mem_range.mpr (Nat.mod_lt _ (ord_pos hw hh)), by rw [at_mod hw hh h1 h2, e]⟩
theorem row_lt (hw : 0 < w) (hh : 0 < h) (hq : q ∈ rowP w h d p) : q.1 < w ∧ q.2 < h := by
  unfold rowP at hq
  obtain ⟨k, _, rfl⟩ := List.mem_map.mp hq
  exact ⟨at_lt1 hw, at_lt2 hh⟩
theorem row_self (hw : 0 < w) (hh : 0 < h) (h1 : p.1 < w) (h2 : p.2 < h) : p ∈ rowP w h d p := (mem_row hw hh h1 h2).mpr ⟨0, at_zero h1 h2⟩
theorem row_trans (hw : 0 < w) (hh : 0 < h) (h1 : p.1 < w) (h2 : p.2 < h) (a : q ∈ rowP w h d p) (b : r ∈ rowP w h d q) : r ∈ rowP w h d p := by
  obtain ⟨l1, l2⟩ := row_lt hw hh a
  obtain ⟨k, rfl⟩ := (mem_row hw hh h1 h2).mp a
  obtain ⟨j, rfl⟩ := (mem_row hw hh l1 l2).mp b
  exact (mem_row hw hh h1 h2).mpr ⟨k + j, at_add.symm⟩
theorem row_symm (hw : 0 < w) (hh : 0 < h) (h1 : p.1 < w) (h2 : p.2 < h) (a : q ∈ rowP w h d p) : p ∈ rowP w h d q := by
  obtain ⟨l1, l2⟩ := row_lt hw hh a
  obtain ⟨k, rfl⟩ := (mem_row hw hh h1 h2).mp a
  refine (mem_row hw hh l1 l2).mpr ⟨ordP w h d * k - k, ?_⟩
  rw [at_add]
  have : k ≤ ordP w h d * k := Nat.le_mul_of_pos_left _ (ord_pos hw hh)
  rw [Nat.add_sub_cancel' this]
  exact (at_iff hw hh h1 h2).mpr ⟨k, rfl⟩
theorem at_inj (hw : 0 < w) (hh : 0 < h) {i j : Nat} (hij : i < j) (hj : j < ordP w h d) : atP w h d p i ≠ atP w h d p j := fun e => by
  have e2 : atP w h d (atP w h d p i) (j - i) = atP w h d p i := by
    rw [at_add, Nat.add_sub_cancel' (Nat.le_of_lt hij)]
    exact e.symm
  have := Nat.le_of_dvd (by omega) ((at_iff hw hh (at_lt1 hw) (at_lt2 hh)).mp e2)
  omega
theorem row_nodup (hw : 0 < w) (hh : 0 < h) : (rowP w h d p).Nodup := by
  unfold rowP
  rw [List.nodup_iff_pairwise_ne, List.pairwise_map]
  refine List.Pairwise.imp_of_mem (fun ha hb hlt => ?_) List.pairwise_lt_range
  exact at_inj hw hh hlt (List.mem_range.mp hb)
theorem row_len : (rowP w h d p).length = ordP w h d := by
  unfold rowP
  rw [List.length_map, List.length_range]
theorem perm_of_mem {α : Type} [DecidableEq α] : ∀ {l m : List α}, l.Nodup → m.Nodup → (∀ x, x ∈ l ↔ x ∈ m) → l.Perm m
  | [], m, _, _, h => by
    cases m with
    | nil => exact .nil
    | cons a m => exact absurd ((h a).mpr (List.mem_cons_self ..)) (by simp)
  | a :: l, m, h1, h2, h => by
    have ha : a ∈ m := (h a).mp (List.mem_cons_self ..)
    refine .trans (.cons a ?_) (List.perm_cons_erase ha).symm
    rw [List.nodup_cons] at h1
    refine perm_of_mem h1.2 (h2.erase a) fun x => ?_
    rw [h2.mem_erase_iff, ← h x, List.mem_cons]
    constructor
    · intro hx
      exact ⟨fun e => h1.1 (e ▸ hx), .inr hx⟩
    · rintro ⟨n, rfl | hx⟩
      · exact absurd rfl n
      · exact hx
theorem srt_iff (hw : 0 < w) (hh : 0 < h) (h1 : p.1 < w) (h2 : p.2 < h) (g1 : q.1 < w) (g2 : q.2 < h) : srtZ (rowP w h d q) = srtZ (rowP w h d p) ↔ p ∈ rowP w h d q := by
  constructor
  · intro e
    exact srt_mem (congrArg (List.map pD) e.symm) (row_self hw hh h1 h2)
  · intro a
    have b := row_symm hw hh g1 g2 a
    exact map_pD_iff.mp (srt_perm (perm_of_mem (row_nodup hw hh) (row_nodup hw hh) fun x => ⟨fun c => row_trans hw hh h1 h2 b c, fun c => row_trans hw hh g1 g2 a c⟩))
end
end K04

namespace K04
open Dn
theorem ni_step {i j : Nat} {ρ : Sto} {a b : D} {s : Slot} {r : Bool} (h1 : ρ[i]? = some (.val a)) (h2 : ρ[j]? = some s) (h3 : s.d? = some b) (h4 : niD a b = some r) : bin2 niD (rd i) (pk j) ρ = some (.ok r ρ) := by
  unfold bin2 M.bind rd pk M.lift
  simp only [h1, h2, h3, h4, Option.map_some]
theorem rd_val {i : Nat} {ρ : Sto} {a : D} (h1 : ρ[i]? = some (.val a)) : rd i ρ = some (.ok a ρ) := by
  unfold rd
  simp only [h1]
theorem call1_ok {α : Type} {den : Den α} {fa : M D} {ρ ρ1 : Sto} {a : D} {r : α} (h1 : fa ρ = some (.ok a ρ1)) (h3 : den [a] = some (.ok r)) : callM 1 den (consM fa (M.pure [])) ρ = some (.ok r ρ1) := by
  unfold callM consM M.bind M.pure M.res nArgs
  simp only [h1, List.length_cons, List.length_nil, if_true, Nat.zero_add, h3]
theorem call2_ok {α : Type} {den : Den α} {fa fb : M D} {ρ ρ1 ρ2 : Sto} {a b : D} {r : α} (h1 : fa ρ = some (.ok a ρ1)) (h2 : fb ρ1 = some (.ok b ρ2)) (h3 : den [a, b] = some (.ok r)) : callM 2 den (consM fa (consM fb (M.pure []))) ρ = some (.ok r ρ2) := by
  unfold callM consM M.bind M.pure M.res nArgs
  simp only [h1, h2, List.length_cons, List.length_nil, if_true, Nat.zero_add, h3]
theorem tup1_ok {fa : M D} {ρ ρ1 : Sto} {a b : D} {g : List D → Option D} (h1 : fa ρ = some (.ok a ρ1)) (h2 : g [a] = some b) : (M.bind (consM fa (M.pure [])) fun ds => M.lift (g ds)) ρ = some (.ok b ρ1) := by
  unfold consM M.bind M.pure M.lift
  simp only [h1, h2, Option.map_some]
theorem new1_ok {fa : M D} {ρ ρ1 : Sto} {a : D} {b : Co} {g : List D → Option Co} (h1 : fa ρ = some (.ok a ρ1)) (h2 : g [a] = some b) : (M.bind (consM fa (M.pure [])) fun ds => M.lift (g ds)) ρ = some (.ok b ρ1) := by
  unfold consM M.bind M.pure M.lift
  simp only [h1, h2, Option.map_some]
end K04
namespace K04
open Dn
theorem append_ok {i : Nat} {f : M D} {ρ ρ1 : Sto} {ds ds1 : List D} {d : D} {b b1 : Bool} (h1 : ρ[i]? = some (.own b (.lst ds1))) (h2 : f ρ = some (.ok d ρ1)) (h3 : ρ1[i]? = some (.own b1 (.lst ds))) (hl : ds.length ≤ 100000) : appendM i f ρ = some (.ok .non (ρ1.set i (.own b1 (.lst (ds ++ [d]))))) := by
  refine bind_ok (ρ1 := ρ) (a := ()) ?_ (bind_ok h2 (push_own h3 hl))
  unfold ownL
  simp only [h1]
theorem put_ok {i : Nat} {fb f : M D} {ρ ρ1 ρ2 : Sto} {d b : D} {s : Slot} {z : D} {bb : Bool} {c c' : Co} (h1 : f ρ = some (.ok d ρ1)) (h2 : ρ1[i]? = some s) (h2' : s.d? = some z) (h3 : fb ρ1 = some (.ok b ρ2)) (h4 : ρ2[i]? = some (.own bb c)) (h5 : putC b d c = some c') : putM i fb f ρ = some (.ok .nx (ρ2.set i (.own bb c'))) := by
  refine bind_ok h1 (bind_ok (ρ1 := ρ1) (a := z) ?_ (bind_ok h3 ?_))
  · unfold pk
    simp only [h2, h2', Option.map_some]
  · unfold put
    simp only [h4, h5, Option.map_some]
/-! ### which crossings begin a row -/
def stepP (w h : Nat) (d : Pt2) (S : List Pt2) (p : Pt2) : List Pt2 := if p ∈ S.flatMap (rowP w h d) then S else S ++ [p]
def starts (w h : Nat) (d : Pt2) (l : List Pt2) : List Pt2 := l.foldl (stepP w h d) []
section
variable {w h : Nat} {d : Pt2}
theorem starts_snoc (l : List Pt2) (p : Pt2) : starts w h d (l ++ [p]) = stepP w h d (starts w h d l) p := by
  unfold starts
  rw [List.foldl_append]
  rfl
theorem starts_all (hw : 0 < w) (hh : 0 < h) (l : List Pt2) : (∀ p ∈ l, p.1 < w ∧ p.2 < h) →
    (∀ p ∈ starts w h d l, p.1 < w ∧ p.2 < h) ∧ (∀ p ∈ l, p ∈ (starts w h d l).flatMap (rowP w h d)) ∧ ((starts w h d l).flatMap (rowP w h d)).Nodup ∧ (starts w h d l).length ≤ l.length := by
  suffices H : ∀ n : Nat, ∀ l : List Pt2, l.length = n → (∀ p ∈ l, p.1 < w ∧ p.2 < h) → (∀ p ∈ starts w h d l, p.1 < w ∧ p.2 < h) ∧ (∀ p ∈ l, p ∈ (starts w h d l).flatMap (rowP w h d)) ∧ ((starts w h d l).flatMap (rowP w h d)).Nodup ∧ (starts w h d l).length ≤ l.length from H _ l rfl
  intro n
  induction n with
  | zero =>
    intro l hl _
    rw [List.length_eq_zero_iff] at hl
    subst hl
    exact ⟨fun p hp => (by cases hp), fun p hp => (by cases hp), List.nodup_nil, Nat.le_refl _⟩
  | succ n ih =>
    intro l hl hr
    obtain ⟨l', p, rfl⟩ : ∃ l' p, l = l' ++ [p] := ⟨l.dropLast, l.getLast (by intro e; rw [e] at hl; cases hl), (List.dropLast_concat_getLast _).symm⟩
    rw [List.length_append, List.length_singleton] at hl
    obtain ⟨a1, a2, a3, a4⟩ := ih l' (by omega) fun q hq => hr q (List.mem_append_left _ hq)
    have hp := hr p (List.mem_append_right _ (List.mem_singleton.mpr rfl))
    rw [starts_snoc]
    unfold stepP
    by_cases c : p ∈ (starts w h d l').flatMap (rowP w h d)
    · rw [if_pos c]
      refine ⟨a1, fun q hq => ?_, a3, by rw [List.length_append]; omega⟩
      rcases List.mem_append.mp hq with hq | hq
      · exact a2 q hq
      · rw [List.mem_singleton.mp hq]; exact c
    · rw [if_neg c]
      refine ⟨fun q hq => ?_, fun q hq => ?_, ?_, by rw [List.length_append, List.length_append]; exact Nat.add_le_add_right a4 _⟩
      · rcases List.mem_append.mp hq with hq | hq
        · exact a1 q hq
        · rw [List.mem_singleton.mp hq]; exact hp
      · rw [List.flatMap_append, List.mem_append]
        rcases List.mem_append.mp hq with hq | hq
        · exact .inl (a2 q hq)
        · right
          rw [List.mem_singleton.mp hq, List.flatMap_cons, List.flatMap_nil, List.append_nil]
          exact row_self hw hh hp.1 hp.2
      · rw [List.flatMap_append, List.flatMap_cons, List.flatMap_nil, List.append_nil, List.nodup_append]
        refine ⟨a3, row_nodup hw hh, fun a ha b hb e => ?_⟩
        subst e
        obtain ⟨s, hs, ha⟩ := List.mem_flatMap.mp ha
        have hs' := a1 s hs
        exact c (List.mem_flatMap.mpr ⟨s, hs, row_trans hw hh hs'.1 hs'.2 ha (row_symm hw hh hp.1 hp.2 hb)⟩)
theorem flat_len {α : Type} (g : α → List Pt2) (n : Nat) (hg : ∀ s, (g s).length = n) : ∀ S : List α, (S.flatMap g).length = S.length * n
  | [] => by simp
  | s :: S => by rw [List.flatMap_cons, List.length_append, hg, flat_len g n hg S, List.length_cons, Nat.succ_mul, Nat.add_comm]
theorem length_le_of_mem {α : Type} [DecidableEq α] : ∀ {l m : List α}, l.Nodup → (∀ x ∈ l, x ∈ m) → l.length ≤ m.length
  | [], _, _, _ => Nat.zero_le _
  | a :: l, m, h, hs => by
    rw [List.nodup_cons] at h
    have ha : a ∈ m := hs a (List.mem_cons_self ..)
    have := length_le_of_mem (l := l) (m := m.erase a) h.2 fun x hx => (List.mem_erase_of_ne (fun e => h.1 (by rw [← e]; exact hx))).mpr (hs x (List.mem_cons_of_mem _ hx))
    rw [List.length_erase_of_mem ha] at this
    have := List.length_pos_of_mem ha
    rw [List.length_cons]
    omega
theorem places_nodup (w h : Nat) : (placesP w h).Nodup := by
  unfold placesP
  rw [List.nodup_iff_pairwise_ne, List.pairwise_flatMap]
  refine ⟨fun x _ => ?_, ?_⟩
  · rw [List.pairwise_map]
    exact List.pairwise_lt_range.imp fun hlt e => by
      have := congrArg Prod.snd e
      simp only at this
      omega
  · refine List.pairwise_lt_range.imp fun hlt a ha b hb e => ?_
    obtain ⟨y, _, rfl⟩ := List.mem_map.mp ha
    obtain ⟨z, _, rfl⟩ := List.mem_map.mp hb
    have := congrArg Prod.fst e
    simp only at this
    omega
/-- how many rows there are -/
theorem count_starts (hw : 0 < w) (hh : 0 < h) : (starts w h d (placesP w h)).length * ordP w h d = w * h := by
  obtain ⟨a1, a2, a3, a4⟩ := starts_all (d := d) hw hh (placesP w h) fun p hp => mem_places.mp hp
  rw [← flat_len (rowP w h d) (ordP w h d) (fun s => row_len), ← len_places w h]
  refine Nat.le_antisymm (length_le_of_mem a3 fun x hx => ?_) (length_le_of_mem (places_nodup w h) a2)
  obtain ⟨s, hs, hx⟩ := List.mem_flatMap.mp hx
  exact mem_places.mpr (row_lt hw hh hx)
theorem count_starts_div (hw : 0 < w) (hh : 0 < h) : w * h / ordP w h d = (starts w h d (placesP w h)).length := by
  rw [← count_starts (d := d) hw hh, Nat.mul_div_cancel _ (ord_pos hw hh)]
end
end K04

namespace K04
open Dn
/-! ### so often as there are rows, any step comes back into its row -/
theorem bezout (m n : Nat) : ∃ x y : Int, ((Nat.gcd m n : Nat) : Int) = m * x + n * y := by
  induction m, n using Nat.gcd.induction with
  | H0 n => exact ⟨0, 1, by simp⟩
  | H1 m n hm ih =>
    obtain ⟨x, y, e⟩ := ih
    refine ⟨y - (n / m : Nat) * x, x, ?_⟩
    rw [Nat.gcd_rec, e]
    have h := Nat.div_add_mod n m
    have h2 : ((n % m : Nat) : Int) = (n : Int) - m * ((n / m : Nat) : Int) := by
      have : ((n : Nat) : Int) = ((m * (n / m) + n % m : Nat) : Int) := by rw [h]
      rw [Int.natCast_add, Int.natCast_mul] at this
      omega
    rw [h2, Int.sub_mul, Int.mul_sub, Int.mul_assoc]
    omega
theorem solve {w c m : Nat} (hw : 0 < w) (h : Nat.gcd c w ∣ m) : ∃ t : Nat, (t * c) % w = m % w := by
  obtain ⟨k, rfl⟩ := h
  obtain ⟨x, y, e⟩ := bezout c w
  refine ⟨((x * k) % w).toNat, ?_⟩
  have hw' : (w : Int) ≠ 0 := by omega
  have e1 : ((((x * k) % w).toNat : Nat) : Int) = (x * k) % w := Int.toNat_of_nonneg (Int.emod_nonneg _ hw')
  have e2 : (((((x * k) % w).toNat * c) % w : Nat) : Int) = (((Nat.gcd c w * k) % w : Nat) : Int) := by
    rw [Int.natCast_emod, Int.natCast_emod, Int.natCast_mul, Int.natCast_mul, e1, e]
    rw [Int.mul_emod, Int.emod_emod, ← Int.mul_emod]
    have e3 : ((c : Int) * x + w * y) * k = x * k * c + w * (y * k) := by
      rw [Int.add_mul, Int.mul_assoc, Int.mul_assoc, Int.mul_comm (c : Int)]
    rw [e3, Int.add_mul_emod_self_left]
  omega
section
variable {w h : Nat} {d p q x y : Pt2}
/-- so many rows -/
def cntP (w h : Nat) (d : Pt2) : Nat := w * h / ordP w h d
theorem gcd_part {w d a : Nat} (hw : 0 < w) (b : Nat) : Nat.gcd (b * d) w ∣ Nat.gcd w d * Nat.gcd (w / Nat.gcd w d) b := by
  have hg : 0 < Nat.gcd w d := Nat.gcd_pos_of_pos_left _ hw
  obtain ⟨w', hw'⟩ := Nat.gcd_dvd_left w d
  obtain ⟨d', hd'⟩ := Nat.gcd_dvd_right w d
  have e : w / Nat.gcd w d = w' := by
    conv => lhs; lhs; rw [hw']
    exact Nat.mul_div_cancel_left _ hg
  have co : Nat.Coprime w' d' := by
    have := Nat.coprime_div_gcd_div_gcd hg
    have e2 : d / Nat.gcd w d = d' := by
      conv => lhs; lhs; rw [hd']
      exact Nat.mul_div_cancel_left _ hg
    rwa [e, e2] at this
  rw [e]
  have e3 : Nat.gcd (b * d) w = Nat.gcd w d * Nat.gcd (b * d') w' := by
    conv => lhs; rw [hd']
    conv => lhs; arg 2; rw [hw']
    rw [Nat.mul_left_comm, Nat.gcd_mul_left]
  rw [e3]
  refine Nat.mul_dvd_mul_left _ ?_
  refine Nat.dvd_gcd (Nat.gcd_dvd_right _ _) ?_
  have h1 : Nat.gcd (b * d') w' ∣ b * d' := Nat.gcd_dvd_left _ _
  have h2 : Nat.Coprime (Nat.gcd (b * d') w') d' := Nat.Coprime.coprime_dvd_left (Nat.gcd_dvd_right _ _) co
  exact h2.dvd_of_dvd_mul_right h1
theorem cnt_eq (hw : 0 < w) (hh : 0 < h) : cntP w h d = Nat.gcd w d.1 * (Nat.gcd h d.2 * Nat.gcd (w / Nat.gcd w d.1) (h / Nat.gcd h d.2)) := by
  have g1 : 0 < Nat.gcd w d.1 := Nat.gcd_pos_of_pos_left _ hw
  have g2 : 0 < Nat.gcd h d.2 := Nat.gcd_pos_of_pos_left _ hh
  have e1 : Nat.gcd w d.1 * (w / Nat.gcd w d.1) = w := Nat.mul_div_cancel' (Nat.gcd_dvd_left _ _)
  have e2 : Nat.gcd h d.2 * (h / Nat.gcd h d.2) = h := Nat.mul_div_cancel' (Nat.gcd_dvd_left _ _)
  unfold cntP
  refine Nat.div_eq_of_eq_mul_left (ord_pos hw hh) ?_
  unfold ordP
  have e3 := Nat.gcd_mul_lcm (w / Nat.gcd w d.1) (h / Nat.gcd h d.2)
  calc w * h = (Nat.gcd w d.1 * (w / Nat.gcd w d.1)) * (Nat.gcd h d.2 * (h / Nat.gcd h d.2)) := by rw [e1, e2]
    _ = Nat.gcd w d.1 * Nat.gcd h d.2 * ((w / Nat.gcd w d.1) * (h / Nat.gcd h d.2)) := by ac_rfl
    _ = Nat.gcd w d.1 * Nat.gcd h d.2 * (Nat.gcd (w / Nat.gcd w d.1) (h / Nat.gcd h d.2) * Nat.lcm (w / Nat.gcd w d.1) (h / Nat.gcd h d.2)) := by rw [e3]
    _ = _ := by ac_rfl
theorem quot_mul {h e : Nat} : h ∣ h / Nat.gcd h e * e := by
  obtain ⟨e', he'⟩ := Nat.gcd_dvd_right h e
  refine ⟨e', ?_⟩
  have h1 : h / Nat.gcd h e * Nat.gcd h e = h := Nat.div_mul_cancel (Nat.gcd_dvd_left h e)
  conv => lhs; rhs; rw [he']
  rw [← Nat.mul_assoc, h1]
/-- a step of any kind, so often as there are rows, is so many steps along the row -/
theorem cnt_row (hw : 0 < w) (hh : 0 < h) (x : Pt2) : ∃ k, ∀ p : Pt2, atP w h x p (cntP w h d) = atP w h d p k := by
  obtain ⟨t1, e1⟩ : ∃ t, (t * (h / Nat.gcd h d.2 * d.1)) % w = cntP w h d % w := by
    refine solve hw ?_
    refine Nat.dvd_trans (gcd_part (a := 0) hw _) ?_
    rw [cnt_eq hw hh]
    exact Nat.mul_dvd_mul_left _ (Nat.dvd_mul_left _ _)
  obtain ⟨t2, e2⟩ : ∃ t, (t * (w / Nat.gcd w d.1 * d.2)) % h = cntP w h d % h := by
    refine solve hh ?_
    refine Nat.dvd_trans (gcd_part (a := 0) hh _) ?_
    rw [cnt_eq hw hh, Nat.gcd_comm (h / Nat.gcd h d.2), ← Nat.mul_assoc, Nat.mul_comm (Nat.gcd w d.1), Nat.mul_assoc]
    exact Nat.mul_dvd_mul_left _ (Nat.dvd_mul_left _ _)
  have z1 : w ∣ w / Nat.gcd w d.1 * d.1 := quot_mul
  have z2 : h ∣ h / Nat.gcd h d.2 * d.2 := quot_mul
  refine ⟨x.1 * (t1 * (h / Nat.gcd h d.2)) + x.2 * (t2 * (w / Nat.gcd w d.1)), fun p => ?_⟩
  unfold atP
  refine Prod.ext ?_ ?_
  · show (p.1 + cntP w h d * x.1) % w = (p.1 + (x.1 * (t1 * (h / Nat.gcd h d.2)) + x.2 * (t2 * (w / Nat.gcd w d.1))) * d.1) % w
    obtain ⟨j, hj⟩ := z1
    have e : (x.1 * (t1 * (h / Nat.gcd h d.2)) + x.2 * (t2 * (w / Nat.gcd w d.1))) * d.1 = x.1 * (t1 * (h / Nat.gcd h d.2 * d.1)) + w * (x.2 * t2 * j) := by
      rw [Nat.add_mul]
      congr 1
      · ac_rfl
      · calc x.2 * (t2 * (w / Nat.gcd w d.1)) * d.1 = x.2 * t2 * (w / Nat.gcd w d.1 * d.1) := by ac_rfl
          _ = x.2 * t2 * (w * j) := by rw [hj]
          _ = _ := by ac_rfl
    rw [e, ← Nat.add_assoc, Nat.add_mul_mod_self_left, Nat.add_mod, Nat.add_mod p.1 (x.1 * _), Nat.mul_mod, ← e1, Nat.mul_comm x.1, ← Nat.mul_mod]
  · show (p.2 + cntP w h d * x.2) % h = (p.2 + (x.1 * (t1 * (h / Nat.gcd h d.2)) + x.2 * (t2 * (w / Nat.gcd w d.1))) * d.2) % h
    obtain ⟨j, hj⟩ := z2
    have e : (x.1 * (t1 * (h / Nat.gcd h d.2)) + x.2 * (t2 * (w / Nat.gcd w d.1))) * d.2 = x.2 * (t2 * (w / Nat.gcd w d.1 * d.2)) + h * (x.1 * t1 * j) := by
      rw [Nat.add_mul, Nat.add_comm]
      congr 1
      · ac_rfl
      · calc x.1 * (t1 * (h / Nat.gcd h d.2)) * d.2 = x.1 * t1 * (h / Nat.gcd h d.2 * d.2) := by ac_rfl
          _ = x.1 * t1 * (h * j) := by rw [hj]
          _ = _ := by ac_rfl
    rw [e, ← Nat.add_assoc, Nat.add_mul_mod_self_left, Nat.add_mod, Nat.add_mod p.2 (x.2 * _), Nat.mul_mod, ← e2, Nat.mul_comm x.2, ← Nat.mul_mod]
end
end K04

namespace K04
open Dn
section
variable {w h : Nat} {d f s p : Pt2}
theorem gap_add1 {w f s : Nat} (hs : s < w) : (s + (f + w - s) % w) % w = f % w := by
  rw [Nat.add_mod_mod]
  have : s + (f + w - s) = f + w := by omega
  rw [this, Nat.add_mod_right]
theorem mul_mod_congr {a b w : Nat} (e : a % w = b % w) (m : Nat) : (m * a) % w = (m * b) % w := by
  rw [Nat.mul_mod, e, ← Nat.mul_mod]
theorem add_mod_congr {a b w : Nat} (e : a % w = b % w) (c : Nat) : (c + a) % w = (c + b) % w := by
  rw [Nat.add_mod, e, ← Nat.add_mod]
/-- steps of the first kind are steps of the second kind and steps along the row -/
theorem first_second (h1 : s.1 < w) (h2 : s.2 < h) (m : Nat) : atP w h f p m = atP w h (gapP w h f s) (atP w h s p m) m := by
  unfold atP gapP
  refine Prod.ext ?_ ?_
  · show (p.1 + m * f.1) % w = ((p.1 + m * s.1) % w + m * ((f.1 + w - s.1) % w)) % w
    rw [Nat.mod_add_mod, Nat.add_assoc, ← Nat.mul_add]
    exact add_mod_congr (mul_mod_congr (gap_add1 h1).symm m) p.1
  · show (p.2 + m * f.2) % h = ((p.2 + m * s.2) % h + m * ((f.2 + h - s.2) % h)) % h
    rw [Nat.mod_add_mod, Nat.add_assoc, ← Nat.mul_add]
    exact add_mod_congr (mul_mod_congr (gap_add1 h2).symm m) p.2
theorem at_comm {x y : Pt2} {m k : Nat} : atP w h x (atP w h y p k) m = atP w h y (atP w h x p m) k := by
  unfold atP
  simp only [Nat.mod_add_mod]
  refine Prod.ext ?_ ?_
  · show (p.1 + k * y.1 + m * x.1) % w = (p.1 + m * x.1 + k * y.1) % w
    rw [Nat.add_right_comm]
  · show (p.2 + k * y.2 + m * x.2) % h = (p.2 + m * x.2 + k * y.2) % h
    rw [Nat.add_right_comm]
/-- m steps of the first kind and the others of the second kind, as many as there are rows: so many along the row -/
theorem moved_row (hw : 0 < w) (hh : 0 < h) (h1 : s.1 < w) (h2 : s.2 < h) {m : Nat} (hm : m ≤ cntP w h (gapP w h f s)) :
    ∃ k, ∀ p : Pt2, atP w h s (atP w h f p m) (cntP w h (gapP w h f s) - m) = atP w h (gapP w h f s) p k := by
  obtain ⟨k, hk⟩ := cnt_row (d := gapP w h f s) hw hh s
  refine ⟨k + m, fun p => ?_⟩
  rw [first_second (f := f) (p := p) h1 h2 m, at_comm, at_add]
  have : m + (cntP w h (gapP w h f s) - m) = cntP w h (gapP w h f s) := Nat.add_sub_cancel' hm
  rw [this, hk, at_add]
def movedP (w h : Nat) (f s : Pt2) (m : Nat) : Pt2 := atP w h s (atP w h f (0, 0) m) (cntP w h (gapP w h f s) - m)
theorem ord_dvd1 (hw : 0 < w) : w ∣ ordP w h d * d.1 := (dvd_mul_iff hw).mpr (Nat.dvd_lcm_left _ _)
theorem ord_dvd2 (hh : 0 < h) : h ∣ ordP w h d * d.2 := (dvd_mul_iff hh).mpr (Nat.dvd_lcm_right _ _)
theorem ord_of_row (hw : 0 < w) (hh : 0 < h) (k : Nat) : ordP w h (atP w h d (0, 0) k) ∣ ordP w h d := by
  refine (at_iff (p := (0, 0)) hw hh hw hh).mp ?_
  unfold atP
  obtain ⟨a, ha⟩ := ord_dvd1 (w := w) (h := h) (d := d) hw
  obtain ⟨b, hb⟩ := ord_dvd2 (w := w) (h := h) (d := d) hh
  refine Prod.ext ?_ ?_
  · show (0 + ordP w h d * ((0 + k * d.1) % w)) % w = 0
    rw [Nat.zero_add, Nat.zero_add, Nat.mul_mod, Nat.mod_mod, ← Nat.mul_mod, Nat.mul_left_comm, ha, Nat.mul_left_comm, Nat.mul_mod_right]
  · show (0 + ordP w h d * ((0 + k * d.2) % h)) % h = 0
    rw [Nat.zero_add, Nat.zero_add, Nat.mul_mod, Nat.mod_mod, ← Nat.mul_mod, Nat.mul_left_comm, hb, Nat.mul_left_comm, Nat.mul_mod_right]
theorem ord_moved (hw : 0 < w) (hh : 0 < h) (h1 : s.1 < w) (h2 : s.2 < h) {m : Nat} (hm : m ≤ cntP w h (gapP w h f s)) : ordP w h (movedP w h f s m) ∣ ordP w h (gapP w h f s) := by
  obtain ⟨k, hk⟩ := moved_row (f := f) hw hh h1 h2 hm
  unfold movedP
  rw [hk]
  exact ord_of_row hw hh k
theorem cnt_starts (hw : 0 < w) (hh : 0 < h) : cntP w h d = (starts w h d (placesP w h)).length := count_starts_div hw hh
theorem div_one_iff {a b : Nat} (hb : 0 < b) (ha : 0 < a) (h : a ∣ b) : b / a = 1 ↔ a = b := by
  obtain ⟨c, rfl⟩ := h
  rw [Nat.mul_div_cancel_left _ ha]
  constructor
  · rintro rfl
    rw [Nat.mul_one]
  · intro e
    exact Nat.eq_of_mul_eq_mul_left ha (by rw [Nat.mul_one]; exact e.symm)
end
end K04

namespace K04
open Dn
theorem perm_of_cover {α : Type} [DecidableEq α] : ∀ {m l : List α}, m.Nodup → (∀ x ∈ m, x ∈ l) → l.length ≤ m.length → l.Perm m
  | [], l, _, _, hl => by
    have : l = [] := List.length_eq_zero_iff.mp (Nat.le_zero.mp hl)
    rw [this]
  | a :: m, l, h, hs, hl => by
    rw [List.nodup_cons] at h
    have ha : a ∈ l := hs a (List.mem_cons_self ..)
    refine (List.perm_cons_erase ha).trans (.cons a (perm_of_cover h.2 (fun x hx => ?_) ?_))
    · exact (List.mem_erase_of_ne (fun e => h.1 (by rw [← e]; exact hx))).mpr (hs x (List.mem_cons_of_mem _ hx))
    · rw [List.length_erase_of_mem ha]
      rw [List.length_cons] at hl
      omega
section
variable {w h : Nat} {f s p : Pt2}
/-- every crossing is led to -/
def Gen (w h : Nat) (f s : Pt2) : Prop := ∀ x : Pt2, x.1 < w → x.2 < h → ∃ a b, atP w h s (atP w h f (0, 0) a) b = x
/-- the step at a crossing, by the choice -/
def goP (w h : Nat) (f s : Pt2) (one : Pt2 → Bool) (p : Pt2) : Pt2 := if one p then ledP w h p f else ledP w h p s
def orb (w h : Nat) (f s : Pt2) (one : Pt2 → Bool) (p : Pt2) : Nat → Pt2
  | 0 => p
  | k + 1 => goP w h f s one (orb w h f s one p k)
/-- the choice goes by rows -/
def ByRow (w h : Nat) (d : Pt2) (one : Pt2 → Bool) : Prop := ∀ p q : Pt2, p.1 < w → p.2 < h → q ∈ rowP w h d p → one q = one p
def onesP (w h : Nat) (s : Pt2) (one : Pt2 → Bool) (p : Pt2) (k : Nat) : Nat := ((List.range k).filter fun i => one (atP w h s p i)).length
theorem at_one : ledP w h p f = atP w h f p 1 := by
  unfold ledP atP
  rw [Nat.one_mul, Nat.one_mul]
theorem ones_succ {one : Pt2 → Bool} {k : Nat} : onesP w h s one p (k + 1) = onesP w h s one p k + if one (atP w h s p k) then 1 else 0 := by
  unfold onesP
  rw [List.range_succ, List.filter_append, List.length_append]
  by_cases c : one (atP w h s p k) = true
  · simp [c]
  · simp [c]
theorem at_lt (hw : 0 < w) (hh : 0 < h) {x : Pt2} {k : Nat} : (atP w h x p k).1 < w ∧ (atP w h x p k).2 < h := ⟨Nat.mod_lt _ hw, Nat.mod_lt _ hh⟩
theorem orb_eq (hw : 0 < w) (hh : 0 < h) (h1 : s.1 < w) (h2 : s.2 < h) (p1 : p.1 < w) (p2 : p.2 < h) {one : Pt2 → Bool} (br : ByRow w h (gapP w h f s) one) : ∀ k, orb w h f s one p k = atP w h (gapP w h f s) (atP w h s p k) (onesP w h s one p k)
  | 0 => by
    show p = atP w h (gapP w h f s) (atP w h s p 0) 0
    rw [at_zero p1 p2, at_zero p1 p2]
  | k + 1 => by
    have ih := orb_eq hw hh h1 h2 p1 p2 br k
    have lt := at_lt (w := w) (h := h) (x := s) (p := p) (k := k) hw hh
    have e : one (orb w h f s one p k) = one (atP w h s p k) := by
      rw [ih]
      exact br _ _ lt.1 lt.2 ((mem_row hw hh lt.1 lt.2).mpr ⟨_, rfl⟩)
    show goP w h f s one (orb w h f s one p k) = _
    unfold goP
    rw [e, ones_succ, ih]
    have sc : atP w h s p (k + 1) = atP w h s (atP w h s p k) 1 := at_add.symm
    cases one (atP w h s p k) with
    | true =>
      rw [if_pos rfl, if_pos rfl, at_one, first_second h1 h2, at_comm (x := s), at_add, sc]
    | false =>
      rw [if_neg Bool.false_ne_true, if_neg Bool.false_ne_true, at_one, at_comm, sc, Nat.add_zero]
/-- the rows that the second kind's steps go through are all there are -/
theorem cover (hw : 0 < w) (hh : 0 < h) (h1 : s.1 < w) (h2 : s.2 < h) (g : Gen w h f s) (p1 : p.1 < w) (p2 : p.2 < h) :
    ((List.range (cntP w h (gapP w h f s))).flatMap fun i => rowP w h (gapP w h f s) (atP w h s p i)).Perm (placesP w h) := by
  let d := gapP w h f s
  have hc : cntP w h d * ordP w h d = w * h := by
    rw [cnt_starts hw hh]
    exact count_starts hw hh
  have hcp : 0 < cntP w h d := by
    refine Nat.pos_of_ne_zero fun e => ?_
    rw [e, Nat.zero_mul] at hc
    have := Nat.mul_pos hw hh
    omega
  obtain ⟨kc, hkc⟩ := cnt_row (d := d) hw hh s
  refine perm_of_cover (places_nodup w h) (fun x hx => ?_) ?_
  · have hx' := mem_places.mp hx
    -- x - p is led to
    obtain ⟨a, b, e⟩ := g ((x.1 + w - p.1) % w, (x.2 + h - p.2) % h) (Nat.mod_lt _ hw) (Nat.mod_lt _ hh)
    have ex : atP w h s (atP w h f p a) b = x := by
      have z : ∀ {c : Nat × Nat}, atP w h s (atP w h f p a) b = ((p.1 + (atP w h s (atP w h f (0, 0) a) b).1) % w, (p.2 + (atP w h s (atP w h f (0, 0) a) b).2) % h) := by
        intro _
        unfold atP
        simp only [Nat.mod_add_mod, Nat.add_mod_mod, Nat.zero_add]
        refine Prod.ext ?_ ?_
        · show (p.1 + a * f.1 + b * s.1) % w = (p.1 + (a * f.1 + b * s.1)) % w
          rw [Nat.add_assoc]
        · show (p.2 + a * f.2 + b * s.2) % h = (p.2 + (a * f.2 + b * s.2)) % h
          rw [Nat.add_assoc]
      rw [z (c := (0, 0)), e]
      refine Prod.ext ?_ ?_
      · show (p.1 + (x.1 + w - p.1) % w) % w = x.1
        rw [gap_add1 p1, Nat.mod_eq_of_lt hx'.1]
      · show (p.2 + (x.2 + h - p.2) % h) % h = x.2
        rw [gap_add1 p2, Nat.mod_eq_of_lt hx'.2]
    -- so x is in the row of a + b steps of the second kind
    have e2 : x = atP w h d (atP w h s p (a + b)) a := by
      rw [← ex, first_second (f := f) (p := p) h1 h2 a, at_comm, at_add]
    -- .. of as many as there are rows at most
    have red : ∀ n, ∃ k, atP w h s p n = atP w h d (atP w h s p (n % cntP w h d)) k := fun n => by
      have : ∀ q, ∃ k, ∀ r : Pt2, r.1 < w → r.2 < h → atP w h s r (cntP w h d * q) = atP w h d r k := fun q => by
        induction q with
        | zero => exact ⟨0, fun r r1 r2 => by rw [Nat.mul_zero, at_zero r1 r2, at_zero r1 r2]⟩
        | succ q ih =>
          obtain ⟨k, hk⟩ := ih
          refine ⟨k + kc, fun r r1 r2 => ?_⟩
          rw [Nat.mul_succ, ← at_add, hkc, hk r r1 r2, at_add]
      obtain ⟨k, hk⟩ := this (n / cntP w h d)
      refine ⟨k, ?_⟩
      have lt := at_lt (w := w) (h := h) (x := s) (p := p) (k := n % cntP w h d) hw hh
      rw [← hk _ lt.1 lt.2, at_add, Nat.mod_add_div]
    obtain ⟨k, hk⟩ := red (a + b)
    refine List.mem_flatMap.mpr ⟨(a + b) % cntP w h d, List.mem_range.mpr (Nat.mod_lt _ hcp), ?_⟩
    have lt := at_lt (w := w) (h := h) (x := s) (p := p) (k := (a + b) % cntP w h d) hw hh
    exact (mem_row hw hh lt.1 lt.2).mpr ⟨k + a, by rw [e2, hk, at_add]⟩
  · rw [flat_len (fun i => rowP w h d (atP w h s p i)) (ordP w h d) (fun _ => row_len), List.length_range, len_places, hc]
    exact Nat.le_refl _
theorem starts_perm (hw : 0 < w) (hh : 0 < h) (d : Pt2) : ((starts w h d (placesP w h)).flatMap (rowP w h d)).Perm (placesP w h) := by
  obtain ⟨a1, a2, a3, a4⟩ := starts_all (d := d) hw hh (placesP w h) fun p hp => mem_places.mp hp
  refine perm_of_cover (places_nodup w h) a2 ?_
  rw [flat_len (rowP w h d) (ordP w h d) (fun _ => row_len), count_starts hw hh, len_places]
  exact Nat.le_refl _
theorem count_row {one : Pt2 → Bool} {d : Pt2} (br : ByRow w h d one) (p1 : p.1 < w) (p2 : p.2 < h) : (rowP w h d p).countP one = if one p then ordP w h d else 0 := by
  by_cases c : one p = true
  · rw [if_pos c, List.countP_eq_length.mpr (fun q hq => by rw [br p q p1 p2 hq]; exact c), row_len]
  · rw [if_neg c, List.countP_eq_zero.mpr (fun q hq => by rw [br p q p1 p2 hq]; exact c)]
theorem sum_ite {α : Type} (c : α → Bool) (n : Nat) : ∀ l : List α, (l.map fun a => if c a then n else 0).sum = (l.filter c).length * n
  | [] => by simp
  | a :: l => by
    rw [List.map_cons, List.sum_cons, sum_ite c n l]
    by_cases e : c a = true
    · rw [if_pos e, List.filter_cons_of_pos e, List.length_cons, Nat.succ_mul, Nat.add_comm]
    · rw [if_neg e, List.filter_cons_of_neg e, Nat.zero_add]
/-- in so many steps as there are rows each chosen row is gone through once -/
theorem ones_all (hw : 0 < w) (hh : 0 < h) (h1 : s.1 < w) (h2 : s.2 < h) (g : Gen w h f s) (p1 : p.1 < w) (p2 : p.2 < h) {one : Pt2 → Bool} (br : ByRow w h (gapP w h f s) one) :
    onesP w h s one p (cntP w h (gapP w h f s)) = ((starts w h (gapP w h f s) (placesP w h)).filter one).length := by
  let d := gapP w h f s
  have e1 := (cover hw hh h1 h2 g p1 p2).countP_eq one
  have e2 := (starts_perm hw hh d).countP_eq one
  rw [List.countP_flatMap] at e1 e2
  have a1 : (List.range (cntP w h d)).map (List.countP one ∘ fun i => rowP w h d (atP w h s p i)) = (List.range (cntP w h d)).map fun i => if one (atP w h s p i) then ordP w h d else 0 := by
    refine List.map_congr_left fun i _ => ?_
    have lt := at_lt (w := w) (h := h) (x := s) (p := p) (k := i) hw hh
    exact count_row br lt.1 lt.2
  have a2 : (starts w h d (placesP w h)).map (List.countP one ∘ rowP w h d) = (starts w h d (placesP w h)).map fun q => if one q then ordP w h d else 0 := by
    refine List.map_congr_left fun q hq => ?_
    have lt := (starts_all (d := d) hw hh (placesP w h) fun p hp => mem_places.mp hp).1 q hq
    exact count_row br lt.1 lt.2
  rw [a1, sum_ite (fun i => one (atP w h s p i))] at e1
  rw [a2, sum_ite one] at e2
  exact Nat.eq_of_mul_eq_mul_right (ord_pos hw hh) (e1.trans e2.symm)
end
end K04

namespace K04
open Dn
section
variable {w h : Nat} {f s p : Pt2}
theorem cnt_pos {d : Pt2} (hw : 0 < w) (hh : 0 < h) : 0 < cntP w h d := by
  have hc : cntP w h d * ordP w h d = w * h := by
    rw [cnt_starts hw hh]
    exact count_starts hw hh
  refine Nat.pos_of_ne_zero fun e => ?_
  rw [e, Nat.zero_mul] at hc
  have := Nat.mul_pos hw hh
  omega
theorem orb_add {one : Pt2 → Bool} {k : Nat} : ∀ n, orb w h f s one p (k + n) = orb w h f s one (orb w h f s one p k) n
  | 0 => rfl
  | n + 1 => by
    show goP w h f s one (orb w h f s one p (k + n)) = goP w h f s one (orb w h f s one (orb w h f s one p k) n)
    rw [orb_add n]
theorem orb_lt (hw : 0 < w) (hh : 0 < h) (p1 : p.1 < w) (p2 : p.2 < h) {one : Pt2 → Bool} : ∀ k, (orb w h f s one p k).1 < w ∧ (orb w h f s one p k).2 < h
  | 0 => ⟨p1, p2⟩
  | k + 1 => by
    show (goP w h f s one _).1 < w ∧ (goP w h f s one _).2 < h
    unfold goP
    split
    · exact ⟨Nat.mod_lt _ hw, Nat.mod_lt _ hh⟩
    · exact ⟨Nat.mod_lt _ hw, Nat.mod_lt _ hh⟩
/-- from another place -/
theorem at_shift {x y : Pt2} {a b : Nat} : atP w h (atP w h x (atP w h y (0, 0) a) b) p 1 = atP w h x (atP w h y p a) b := by
  unfold atP
  simp only [Nat.mod_add_mod, Nat.add_mod_mod, Nat.zero_add, Nat.one_mul, Nat.add_assoc]
variable {one : Pt2 → Bool} (hw : 0 < w) (hh : 0 < h) (h1 : s.1 < w) (h2 : s.2 < h) (g : Gen w h f s) (br : ByRow w h (gapP w h f s) one)
/-- how many rows are chosen -/
def chosenP (w h : Nat) (d : Pt2) (one : Pt2 → Bool) : Nat := ((starts w h d (placesP w h)).filter one).length
theorem chosen_le (hw : 0 < w) (hh : 0 < h) {d : Pt2} : chosenP w h d one ≤ cntP w h d := by
  rw [cnt_starts hw hh]
  exact List.length_filter_le _ _
include hw hh h1 h2 g br
theorem orb_block (p1 : p.1 < w) (p2 : p.2 < h) : orb w h f s one p (cntP w h (gapP w h f s)) = atP w h (movedP w h f s (chosenP w h (gapP w h f s) one)) p 1 := by
  have le : chosenP w h (gapP w h f s) one ≤ cntP w h (gapP w h f s) := chosen_le hw hh
  rw [orb_eq hw hh h1 h2 p1 p2 br, ones_all hw hh h1 h2 g p1 p2 br]
  unfold movedP
  have e : atP w h s (atP w h f p (chosenP w h (gapP w h f s) one)) (cntP w h (gapP w h f s) - chosenP w h (gapP w h f s) one) = atP w h (gapP w h f s) (atP w h s p (cntP w h (gapP w h f s))) (chosenP w h (gapP w h f s) one) := by
    rw [first_second (f := f) (p := p) h1 h2, at_comm (x := s) (y := gapP w h f s), at_add, Nat.add_sub_cancel' le]
  rw [at_shift, e]
  rfl
theorem orb_blocks (p1 : p.1 < w) (p2 : p.2 < h) : ∀ q, orb w h f s one p (cntP w h (gapP w h f s) * q) = atP w h (movedP w h f s (chosenP w h (gapP w h f s) one)) p q
  | 0 => by
    rw [Nat.mul_zero, at_zero p1 p2]
    rfl
  | q + 1 => by
    have lt := orb_lt (f := f) (s := s) (one := one) hw hh p1 p2 (cntP w h (gapP w h f s) * q)
    rw [Nat.mul_succ, orb_add, orb_block hw hh h1 h2 g br lt.1 lt.2, orb_blocks p1 p2 q, at_add]
theorem orb_dvd (p1 : p.1 < w) (p2 : p.2 < h) {k : Nat} (e : orb w h f s one p k = p) : cntP w h (gapP w h f s) ∣ k := by
  let d := gapP w h f s
  have cp := cnt_pos (d := d) hw hh
  have nd : ((List.range (cntP w h d)).flatMap fun i => rowP w h d (atP w h s p i)).Nodup := (cover hw hh h1 h2 g p1 p2).nodup_iff.mpr (places_nodup w h)
  -- where the steps end, after the whole rounds
  have e1 : orb w h f s one p k = orb w h f s one (orb w h f s one p (cntP w h d * (k / cntP w h d))) (k % cntP w h d) := by
    rw [← orb_add, Nat.div_add_mod]
  have lt := orb_lt (f := f) (s := s) (one := one) hw hh p1 p2 (cntP w h d * (k / cntP w h d))
  obtain ⟨j, hj⟩ := moved_row (f := f) (s := s) hw hh h1 h2 (chosen_le (one := one) hw hh)
  -- after whole rounds we stand in the first row
  have inrow : ∀ q, orb w h f s one p (cntP w h d * q) ∈ rowP w h d p := fun q => by
    induction q with
    | zero => rw [Nat.mul_zero]; exact row_self hw hh p1 p2
    | succ q ih =>
      have lt := row_lt hw hh ih
      rw [Nat.mul_succ, orb_add, orb_block hw hh h1 h2 g br lt.1 lt.2]
      unfold movedP
      rw [at_shift, hj]
      exact row_trans hw hh p1 p2 ih ((mem_row hw hh lt.1 lt.2).mpr ⟨_, rfl⟩)
  let r := orb w h f s one p (cntP w h d * (k / cntP w h d))
  have hr : r ∈ rowP w h d p := inrow _
  rw [orb_eq hw hh h1 h2 lt.1 lt.2 br] at e1
  obtain ⟨c, hc⟩ := (mem_row hw hh p1 p2).mp hr
  have e2 : p = atP w h d (atP w h s p (k % cntP w h d)) (c + onesP w h s one r (k % cntP w h d)) := by
    rw [e] at e1
    have e3 : atP w h s r (k % cntP w h d) = atP w h d (atP w h s p (k % cntP w h d)) c := by rw [← hc, at_comm]
    rw [← at_add, ← e3]
    exact e1
  have la := at_lt (w := w) (h := h) (x := s) (p := p) (k := k % cntP w h d) hw hh
  have m1 : p ∈ rowP w h d (atP w h s p (k % cntP w h d)) := (mem_row hw hh la.1 la.2).mpr ⟨_, e2.symm⟩
  have m0 : p ∈ rowP w h d (atP w h s p 0) := by
    rw [at_zero p1 p2]
    exact row_self hw hh p1 p2
  refine Nat.dvd_of_mod_eq_zero ?_
  refine Decidable.byContradiction fun n => ?_
  rw [List.nodup_iff_pairwise_ne, List.pairwise_flatMap] at nd
  have ml := Nat.mod_lt k cp
  have pw := List.pairwise_iff_getElem.mp nd.2 0 (k % cntP w h d) (by rw [List.length_range]; exact cp) (by rw [List.length_range]; exact ml) (Nat.pos_of_ne_zero n)
  simp only [List.getElem_range] at pw
  exact pw p m0 p m1 rfl
/-- a ring's length -/
theorem orb_iff (p1 : p.1 < w) (p2 : p.2 < h) {k : Nat} : orb w h f s one p k = p ↔ cntP w h (gapP w h f s) * ordP w h (movedP w h f s (chosenP w h (gapP w h f s) one)) ∣ k := by
  constructor
  · intro e
    obtain ⟨q, rfl⟩ := orb_dvd hw hh h1 h2 g br p1 p2 e
    rw [orb_blocks hw hh h1 h2 g br p1 p2, at_iff hw hh p1 p2] at e
    exact Nat.mul_dvd_mul_left _ e
  · rintro ⟨q, rfl⟩
    rw [Nat.mul_assoc, orb_blocks hw hh h1 h2 g br p1 p2, at_iff hw hh p1 p2]
    exact ⟨q, rfl⟩
end
end K04

namespace K04
open Dn
theorem dP_d (l : List Pt2) : (Slot.own false (dP l)).d? = some (dP l).d := rfl
section
variable {w h : Nat} {f s : Pt2} (t : OkT w h f s)
include t
theorem lots_eval : d_lots [tD w h f s] = some (.ok (.tup ((starts w h (gapP w h f s) (placesP w h)).map fun p => .tup (srt (rowP w h (gapP w h f s) p))))) := by
  have hw : 0 < w := t.w1
  have hh : 0 < h := t.h1
  let d := gapP w h f s
  have hL : ordP w h d ≤ 144 := Nat.le_trans (ord_le hw hh) t.most
  have hn : (placesP w h).length ≤ 144 := by rw [len_places]; exact t.most
  let Inv : List Pt2 → Sto → Prop := fun pre ρ => ∃ x3 x4 x5, ρ = [.val (tD w h f s), .own false (.lst ((starts w h d pre).map fun p => .tup (srt (rowP w h d p)))), .own false (dP ((starts w h d pre).flatMap (rowP w h d))), x3, x4, x5]
  obtain ⟨ρ', e, I⟩ := for_pre (t := .nm 3) (g := l_lots_1) pN Inv (placesP w h) (fun pre p post ρ hs ⟨x3, x4, x5, I⟩ => by
    subst I
    have hpre : ∀ q ∈ pre, q.1 < w ∧ q.2 < h := fun q hq => mem_places.mp (by rw [hs]; exact List.mem_append_left _ hq)
    have hp := mem_places.mp (show p ∈ placesP w h by rw [hs]; exact List.mem_append_right _ (List.mem_cons_self ..))
    obtain ⟨b1, b2, b3, b4⟩ := starts_all (d := d) hw hh pre hpre
    have hl : pre.length ≤ 144 := by
      have := congrArg List.length hs
      rw [List.length_append] at this
      omega
    have hfl := flat_len (rowP w h d) (ordP w h d) (fun s => row_len) (starts w h d pre)
    have hfl2 : (starts w h d pre).length * ordP w h d ≤ 144 * 144 := Nat.mul_le_mul (Nat.le_trans b4 hl) hL
    let ρ1 : Sto := [.val (tD w h f s), .own false (.lst ((starts w h d pre).map fun p => .tup (srt (rowP w h d p)))), .own false (dP ((starts w h d pre).flatMap (rowP w h d))), .val (pN p), x4, x5]
    have test : bin2 niD (rd 3) (pk 2) ρ1 = some (.ok (!decide (p ∈ (starts w h d pre).flatMap (rowP w h d))) ρ1) := ni_step (i := 3) (j := 2) rfl rfl rfl (ni_dP _ _)
    refine ⟨ρ1, ?_⟩
    by_cases c : p ∈ (starts w h d pre).flatMap (rowP w h d)
    · rw [decide_eq_true c] at test
      refine ⟨ρ1, rfl, if_ff test rfl, ?_⟩
      refine ⟨.val (pN p), x4, x5, ?_⟩
      rw [starts_snoc]
      unfold stepP
      rw [if_pos c]
    · rw [decide_eq_false c] at test
      have sn : starts w h d (pre ++ [p]) = starts w h d pre ++ [p] := by
        rw [starts_snoc]
        unfold stepP
        rw [if_neg c]
      let base := (starts w h d pre).flatMap (rowP w h d)
      let found' : List D := ((starts w h d pre).map fun p => .tup (srt (rowP w h d p))) ++ [.tup (srt (rowP w h d p))]
      let lot : D := .lst ((rowP w h d p).map pN)
      have dis : ∀ q ∈ rowP w h d p, q ∉ base := fun q hq hb => by
        obtain ⟨s, hs, hb⟩ := List.mem_flatMap.mp hb
        have hs' := b1 s hs
        exact c (List.mem_flatMap.mpr ⟨s, hs, row_trans hw hh hs'.1 hs'.2 hb (row_symm hw hh hp.1 hp.2 hq)⟩)
      have nd := row_nodup (w := w) (h := h) (d := d) (p := p) hw hh
      have rl : (rowP w h d p).length = ordP w h d := row_len
      let Inv2 : List Pt2 → Sto → Prop := fun pre2 ρ => ∃ x5, ρ = [.val (tD w h f s), .own false (.lst found'), .own false (dP (base ++ pre2)), .val (pN p), .val lot, x5]
      obtain ⟨ρ2, e2, x5', I2⟩ := for_pre (t := .nm 5) (g := l_lots_0) pN Inv2 (rowP w h d p) (fun pre2 q post2 ρ hs2 ⟨x5, I2⟩ => by
        subst I2
        have hq : q ∉ base ++ pre2 := by
          rw [List.mem_append]
          rintro (hb | hb)
          · exact dis q (by rw [hs2]; exact List.mem_append_right _ (List.mem_cons_self ..)) hb
          · rw [hs2, List.nodup_append] at nd
            exact nd.2.2 q hb q (List.mem_cons_self ..) rfl
        have hl2 : pre2.length ≤ 144 := by
          have := congrArg List.length hs2
          rw [List.length_append] at this
          omega
        refine ⟨_, _, rfl, put_ok (i := 2) (c := dP (base ++ pre2)) (c' := dP (base ++ pre2 ++ [q])) rfl rfl rfl (rd_val (i := 5) rfl) rfl (put_dP hq ?_), ⟨.val (pN q), ?_⟩⟩
        · rw [List.length_append]
          show ((starts w h d pre).flatMap (rowP w h d)).length + _ ≤ _
          omega
        · rw [List.append_assoc]
          rfl) (rowP w h d p) [] [.val (tD w h f s), .own false (.lst found'), .own false (dP (base ++ [])), .val (pN p), .val lot, x5] rfl ⟨x5, rfl⟩
      subst I2
      refine ⟨_, rfl, if_tt test (seq_nx (set_ok (i := 4) (call2_ok (rd_val (i := 0) rfl) (rd_val (i := 3) rfl) (lot_from_eval t hp.1 hp.2))) (seq_nx (drop_ok (append_ok (i := 1) rfl (tup1_ok (map_ok (new1_ok (rd_val (i := 4) rfl) (sortD_pN (l := rowP w h d p) ?_))) rfl) rfl ?_)) (for_ok (ds := (rowP w h d p).map pN) ?_ (ρ1 := [.val (tD w h f s), .own false (.lst found'), .own false (dP (base ++ [])), .val (pN p), .val lot, x5]) e2))), ?_⟩
      · intro e0
        have := ord_pos (d := d) hw hh
        rw [← rl, e0] at this
        exact absurd this (Nat.lt_irrefl _)
      · rw [List.length_map]
        omega
      · rw [List.append_nil]
        rfl
      · refine ⟨.val (pN p), .val lot, x5', ?_⟩
        rw [sn, List.map_append, List.flatMap_append, List.flatMap_cons, List.flatMap_nil, List.append_nil]
        rfl) (placesP w h) [] [.val (tD w h f s), .own false (.lst []), .own false (dP []), .emp, .emp, .emp] rfl ⟨.emp, .emp, .emp, rfl⟩
  obtain ⟨x3, x4, x5, I⟩ := I
  subst I
  refine runD_ret (seq_nx (drop_ok (call1_ok (rd_val (i := 0) rfl) (check_eval t))) (seq_nx (own_ok (i := 1) rfl) (seq_nx (own_ok (i := 2) rfl) (seq_nx (for_ok (ds := (placesP w h).map pN) (ρ1 := [.val (tD w h f s), .own false (.lst []), .own false (dP []), .emp, .emp, .emp]) ?_ e) (retM_ok (tup1_ok (a := .lst ((starts w h d (placesP w h)).map fun p => .tup (srt (rowP w h d p)))) rfl rfl))))))
  exact bind_ok (call1_ok (rd_val (i := 0) rfl) (crossings_eval t)) rfl
end
end K04

namespace K04
open Dn
theorem runN_ret {N : Nat} {g : M Out} {ds : List D} {c : Co} {ρ' : Sto} (h : g (start0 N ds) = some (.ok (.retN c) ρ')) : runN N g ds = some (.ok c) := by
  unfold runN
  rw [h]
theorem places_take (w h : Nat) : placesP w h = (List.range w).flatMap fun x => (List.range h).map fun y => (x, y) := rfl
section
variable {w h : Nat} {f s : Pt2}
/-- of two sides alone, or of a whole town -/
theorem law_crossings_gen {T : D} (i0 : ixD T (.int 0) = some (.int w)) (i1 : ixD T (.int 1) = some (.int h)) (hw : w ≤ 12) (hh : h ≤ 12) : d__law_crossings [T] = some (.ok (Co.lst ((placesP w h).map pN))) := by
  have e1 := rng_eval (n := w) (by omega)
  have e2 := rng_eval (n := h) (by omega)
  let row : Nat → List Pt2 := fun x => (List.range h).map fun y => (x, y)
  let Inv : List Nat → Sto → Prop := fun pre ρ => ∃ x2, ρ = [.val T, .own false (.lst ((pre.flatMap row).map pN)), x2, .emp]
  obtain ⟨ρ', e, x2, I⟩ := for_pre (t := .nm 2) (g := l__law_crossings_0) (fun (i : Nat) => D.int i) Inv (List.range w) (fun pre x post ρ hs ⟨x2, I⟩ => by
    subst I
    have hl : pre.length ≤ 12 := by
      have := congrArg List.length hs
      rw [List.length_append, List.length_range] at this
      omega
    have hf : (pre.flatMap row).length ≤ 12 * 12 := by
      rw [flat_len row h (fun s => by simp [row])]
      exact Nat.mul_le_mul hl hh
    have lc := lc_runs (vs := [3]) (t := .nm 3) (tt := M.pure true) (f := e__law_crossings_0) (ρ := [.val T, .val (.lst ((pre.flatMap row).map pN)), .val (.int x), .emp]) (fun (i : Nat) => D.int i) (fun _ => true) (fun y => pN (x, y)) (List.range h) [] (fun y _ => ⟨_, _, rfl, rfl, (fun h => by cases h), fun _ => ⟨_, rfl, rfl⟩⟩) (by rw [List.length_range, List.length_nil]; omega)
    rw [List.filter_eq_self.mpr (fun _ _ => rfl), List.nil_append] at lc
    have el : (List.range h).map (fun y => pN (x, y)) = (row x).map pN := by
      show _ = ((List.range h).map fun y => (x, y)).map pN
      rw [List.map_map]
      rfl
    refine ⟨_, _, rfl, own_ok (i := 1) (ρ1 := [.val T, .val (.lst ((pre.flatMap row).map pN)), .val (.int x), .emp]) (c := .lst ((pre.flatMap row).map pN ++ (row x).map pN)) (bind_ok (a := .lst ((pre.flatMap row).map pN)) rfl (bind_ok (a := .lst ((row x).map pN)) (map_ok (a := Co.lst ((row x).map pN)) (lc_ok (ρ1 := [.val T, .val (.lst ((pre.flatMap row).map pN)), .val (.int x), .emp]) ?_ (lc.trans (by rw [el])))) ?_)), ?_⟩
    · simp [rngM, consM, M.bind, M.pure, M.lift, ixAt, pk, ixHere, Slot.d?, i1, e2]
      rfl
    · have : ((pre.flatMap row).map pN).length + ((row x).map pN).length ≤ 100000 := by
        rw [List.length_map, List.length_map]
        have : (row x).length = h := by simp [row]
        omega
      simp only [M.lift, catC, this, if_true, Option.map_some]
      rfl
    · refine ⟨.val (.int x), ?_⟩
      rw [List.flatMap_append, List.map_append, List.flatMap_cons, List.flatMap_nil, List.append_nil]
      rfl) (List.range w) [] [.val T, .own false (.lst []), .emp, .emp] rfl ⟨.emp, rfl⟩
  subst I
  refine runN_ret (c := Co.lst ((placesP w h).map pN)) (seq_nx (own_ok (i := 1) rfl) (seq_nx (for_ok (ds := (List.range w).map fun (i : Nat) => D.int i) (ρ1 := [.val T, .own false (.lst []), .emp, .emp]) ?_ e) rfl))
  simp [rngM, consM, M.bind, M.pure, M.lift, ixAt, pk, ixHere, Slot.d?, i0, e1, start0, lstM]
end
section
variable {w h : Nat} {f s : Pt2} (t : OkT w h f s)
include t
theorem law_crossings_eval : d__law_crossings [tD w h f s] = some (.ok (Co.lst ((placesP w h).map pN))) := law_crossings_gen rfl rfl t.w12 t.h12
theorem gap_lt : (gapP w h f s).1 < w ∧ (gapP w h f s).2 < h := ⟨Nat.mod_lt _ t.w1, Nat.mod_lt _ t.h1⟩
theorem law_lots_eval : d__law_lots [tD w h f s] = some (.ok (.lst ((starts w h (gapP w h f s) (placesP w h)).map fun p => .tup (srt (rowP w h (gapP w h f s) p))))) := by
  have hw : 0 < w := t.w1
  have hh : 0 < h := t.h1
  let d := gapP w h f s
  have hd := gap_lt t
  have hL : ordP w h d ≤ 144 := Nat.le_trans (ord_le hw hh) t.most
  have hn : (placesP w h).length ≤ 144 := by rw [len_places]; exact t.most
  let row : D := .lst ((rowP w h d (0, 0)).map pN)
  let Inv : List Pt2 → Sto → Prop := fun pre ρ => ∃ x3 x4, ρ = [.val (tD w h f s), .val row, .own false (.lst ((starts w h d pre).map fun p => .tup (srt (rowP w h d p)))), x3, x4, .emp]
  obtain ⟨ρ', e, x3, x4, I⟩ := for_pre (t := .nm 3) (g := l__law_lots_0) pN Inv (placesP w h) (fun pre p post ρ hs ⟨x3, x4, I⟩ => by
    subst I
    have hpre : ∀ q ∈ pre, q.1 < w ∧ q.2 < h := fun q hq => mem_places.mp (by rw [hs]; exact List.mem_append_left _ hq)
    have hp := mem_places.mp (show p ∈ placesP w h by rw [hs]; exact List.mem_append_right _ (List.mem_cons_self ..))
    obtain ⟨b1, b2, b3, b4⟩ := starts_all (d := d) hw hh pre hpre
    have hl : pre.length ≤ 144 := by
      have := congrArg List.length hs
      rw [List.length_append] at this
      omega
    have rl : (rowP w h d p).length = ordP w h d := row_len
    have rl0 : (rowP w h d (0, 0)).length = ordP w h d := row_len
    let found : List D := (starts w h d pre).map fun p => .tup (srt (rowP w h d p))
    let σ : Sto := [.val (tD w h f s), .val row, .own false (.lst found), .val (pN p), x4, .emp]
    have lc := lc_runs (vs := [5]) (t := .nm 5) (tt := M.pure true) (f := e__law_lots_0) (ρ := σ) pN (fun _ => true) (fun q => pN (ledP w h p q)) (rowP w h d (0, 0)) [] (fun q _ => ⟨_, _, rfl, rfl, (fun h => by cases h), fun _ => ⟨[.val (tD w h f s), .val row, .own false (.lst found), .val (pN p), x4, .val (pN q)], by
      simp [e__law_lots_0, callM, consM, M.bind, M.pure, M.res, nArgs, rd, σ, List.set, led_eval hw hh], rfl⟩⟩) (by rw [rl0, List.length_nil]; omega)
    rw [List.filter_eq_self.mpr (fun _ _ => rfl), List.nil_append] at lc
    have el : (rowP w h d (0, 0)).map (fun q => pN (ledP w h p q)) = (rowP w h d p).map pN := by
      unfold rowP
      rw [List.map_map, List.map_map]
      refine List.map_congr_left fun k _ => ?_
      show pN (ledP w h p (atP w h d (0, 0) k)) = _
      rw [led_at0]
      rfl
    rw [el] at lc
    let σ1 : Sto := [.val (tD w h f s), .val row, .own false (.lst found), .val (pN p), .val (.tup (srt (rowP w h d p))), .emp]
    have ex : (∃ q ∈ starts w h d pre, srtZ (rowP w h d q) = srtZ (rowP w h d p)) ↔ p ∈ (starts w h d pre).flatMap (rowP w h d) := by
      rw [List.mem_flatMap]
      constructor
      · rintro ⟨q, hq, z⟩
        exact ⟨q, hq, (srt_iff hw hh hp.1 hp.2 (b1 q hq).1 (b1 q hq).2).mp z⟩
      · rintro ⟨q, hq, z⟩
        exact ⟨q, hq, (srt_iff hw hh hp.1 hp.2 (b1 q hq).1 (b1 q hq).2).mpr z⟩
    have test : bin2 niD (rd 4) (pk 2) σ1 = some (.ok (!decide (p ∈ (starts w h d pre).flatMap (rowP w h d))) σ1) := by
      refine ni_step (i := 4) (j := 2) rfl rfl rfl ((ni_srt (rowP w h d p) (rowP w h d) (starts w h d pre)).trans ?_)
      congr 2
      exact decide_eq_decide.mpr ex
    refine ⟨σ, ?_⟩
    have first : setM 4 (M.bind (consM (M.map (M.bind (consM (M.map (lcM [5] (.nm 5) (seqM (rd 1)) (M.pure true) (e__law_lots_0)) Co.d) (M.pure [])) fun ds => M.lift (sortD ds)) Co.d) (M.pure [])) fun ds => M.lift (tupleD ds)) σ = some (.ok .nx σ1) := by
      refine set_ok (i := 4) (ρ1 := σ) (tup1_ok (map_ok (new1_ok (map_ok (lc_ok (ds := (rowP w h d (0, 0)).map pN) (ρ1 := σ) rfl lc)) (sortD_pN (l := rowP w h d p) ?_))) rfl)
      intro e0
      have := ord_pos (d := d) hw hh
      rw [← rl, e0] at this
      exact absurd this (Nat.lt_irrefl _)
    by_cases c : p ∈ (starts w h d pre).flatMap (rowP w h d)
    · rw [decide_eq_true c] at test
      refine ⟨_, rfl, seq_nx first (if_ff test rfl), .val (pN p), .val (.tup (srt (rowP w h d p))), ?_⟩
      · rw [starts_snoc]
        unfold stepP
        rw [if_pos c]
    · rw [decide_eq_false c] at test
      refine ⟨_, rfl, seq_nx first (if_tt test (drop_ok (append_ok (i := 2) rfl (rd_val (i := 4) rfl) rfl ?_))), .val (pN p), .val (.tup (srt (rowP w h d p))), ?_⟩
      · show ((starts w h d pre).map _).length ≤ _
        rw [List.length_map]
        omega
      · rw [starts_snoc]
        unfold stepP
        rw [if_neg c, List.map_append]
        rfl) (placesP w h) [] [.val (tD w h f s), .val row, .own false (.lst []), .emp, .emp, .emp] rfl ⟨.emp, .emp, rfl⟩
  subst I
  refine runD_ret (seq_nx (ρ1 := [.val (tD w h f s), .val row, .own false (.lst []), .emp, .emp, .emp]) ?_ (seq_nx (for_ok (ds := (placesP w h).map pN) (ρ1 := [.val (tD w h f s), .val row, .own false (.lst []), .emp, .emp, .emp]) (bind_ok (map_ok (call1_ok (rd_val (i := 0) rfl) (law_crossings_eval t))) rfl) e) (retM_ok rfl)))
  refine bind_ok (map_ok (call2_ok (rd_val (i := 0) rfl) (call1_ok (rd_val (i := 0) rfl) (gap_eval t.s1 t.s2)) (row_eval t hd.1 hd.2))) (bind_ok (map_ok rfl) rfl)
theorem count_lots_eval : d_count_lots [tD w h f s] = some (.ok (.int (starts w h (gapP w h f s) (placesP w h)).length)) := by
  have hw : 0 < w := t.w1
  have hh : 0 < h := t.h1
  have hd := gap_lt t
  have a1 := t.w12
  have hL : ordP w h (gapP w h f s) ≤ 144 := Nat.le_trans (ord_le hw hh) t.most
  have m := mul_eval (a := w) (b := h) (by omega)
  have dv := div_eval (a := w * h) (ord_pos (d := gapP w h f s) hw hh) (by omega)
  rw [count_starts_div hw hh] at dv
  refine runD_ret (retM_ok (ρ1 := [.val (tD w h f s)]) (bind_ok (a := .int ((w * h : Nat) : Int)) (ρ1 := [.val (tD w h f s)]) ?_ (bind_ok (call2_ok (rd_val (i := 0) rfl) (call1_ok (rd_val (i := 0) rfl) (sd_eval t.s1 t.s2)) (order_eval t hd.1 hd.2)) ?_)))
  · exact bind_ok (a := .int w) rfl (bind_ok (a := .int h) rfl (by simp only [M.lift, m, Option.map_some]; rfl))
  · simp only [M.lift, dv, Option.map_some]
theorem starts_le : (starts w h (gapP w h f s) (placesP w h)).length ≤ 144 := by
  have hw : 0 < w := t.w1
  have hh : 0 < h := t.h1
  obtain ⟨_, _, _, a4⟩ := starts_all (d := gapP w h f s) hw hh (placesP w h) fun p hp => mem_places.mp hp
  rw [len_places] at a4
  exact Nat.le_trans a4 t.most
end
end K04

namespace K04
open Dn
theorem for_cons_ok {t : Tgt} {g : M Out} {d : D} {ds : List D} {ρ ρ1 ρ2 : Sto} {r : Option (Res Out)} (h1 : t.set d ρ = some ρ1) (h2 : g ρ1 = some (.ok .nx ρ2)) (h3 : forLoop t g ds ρ2 = r) : forLoop t g (d :: ds) ρ = r := by
  unfold forLoop
  rw [h1]
  simp only [h2]
  exact h3
theorem testT_ok {f : M D} {ρ ρ1 : Sto} {d : D} {b : Bool} (h1 : f ρ = some (.ok d ρ1)) (h2 : truD d = some b) : testT f ρ = some (.ok b ρ1) := bind_ok h1 (by simp only [M.lift, h2, Option.map_some])
theorem nilNe_ok {f : M D} {ρ ρ1 : Sto} {d : D} {b : Bool} (h1 : f ρ = some (.ok d ρ1)) (h2 : neD d (.lst []) = some b) : nilNe f ρ = some (.ok b ρ1) := bind_ok h1 (by simp only [M.lift, h2, Option.map_some])
theorem pop_ok {i : Nat} {ρ : Sto} {b : Bool} {l : List Pt2} {p : Pt2} (h : ρ[i]? = some (.own b (.lst ((l ++ [p]).map pN)))) : popM i ρ = some (.ok (pN p) (ρ.set i (.own b (.lst (l.map pN))))) := by
  unfold popM
  rw [h]
  simp
/-! ### whole: both go the same way -/
abbrev Ws := List Pt2 × List Pt2
def visit (a : Ws) (q : Pt2) : Ws := if q ∈ a.1 then a else (a.1 ++ [q], a.2 ++ [q])
def nextW (w h : Nat) (f s : Pt2) (a : Ws) : Ws := match a.2.getLast? with
  | none => a
  | some p => visit (visit (a.1, a.2.dropLast) (ledP w h p f)) (ledP w h p s)
def condW (a : Ws) : Bool := !a.2.isEmpty
def wholeP (w h : Nat) (f s : Pt2) : Ws := runW condW (nextW w h f s) 5000 ([(0, 0)], [(0, 0)])
structure OkW (w h : Nat) (a : Ws) : Prop where
  nd : a.1.Nodup
  red : ∀ p ∈ a.1, p.1 < w ∧ p.2 < h
  sub : ∀ p ∈ a.2, p ∈ a.1
  le : a.2.length ≤ a.1.length
theorem OkW.len {w h : Nat} {a : Ws} (o : OkW w h a) : a.1.length ≤ w * h := by
  rw [← len_places]
  exact length_le_of_mem o.nd fun x hx => mem_places.mpr (o.red x hx)
theorem OkW.visit {w h : Nat} {a : Ws} (o : OkW w h a) {q : Pt2} (hq : q.1 < w ∧ q.2 < h) : OkW w h (visit a q) := by
  unfold K04.visit
  split
  · exact o
  · rename_i c
    refine ⟨?_, fun p hp => ?_, fun p hp => ?_, ?_⟩
    · rw [List.nodup_append]
      exact ⟨o.nd, List.nodup_cons.mpr ⟨by simp, List.nodup_nil⟩, fun x hx y hy e => c (by rw [List.mem_singleton] at hy; rw [← hy, ← e]; exact hx)⟩
    · rcases List.mem_append.mp hp with hp | hp
      · exact o.red p hp
      · rw [List.mem_singleton.mp hp]; exact hq
    · rcases List.mem_append.mp hp with hp | hp
      · exact List.mem_append_left _ (o.sub p hp)
      · exact List.mem_append_right _ hp
    · rw [List.length_append, List.length_append]
      exact Nat.add_le_add_right o.le _
def meas (n : Nat) (a : Ws) : Nat := 2 * (n - a.1.length) + a.2.length
theorem meas_visit {w h : Nat} {a : Ws} (o : OkW w h a) {q : Pt2} (hq : q.1 < w ∧ q.2 < h) : meas (w * h) (visit a q) ≤ meas (w * h) a := by
  have := (o.visit hq).len
  unfold meas
  unfold K04.visit at this ⊢
  split
  · exact Nat.le_refl _
  · rename_i c
    rw [if_neg c] at this
    simp only [List.length_append, List.length_singleton] at this ⊢
    omega
section
variable {w h : Nat} {f s : Pt2}
theorem led_lt (hw : 0 < w) (hh : 0 < h) {p q : Pt2} : (ledP w h p q).1 < w ∧ (ledP w h p q).2 < h := ⟨Nat.mod_lt _ hw, Nat.mod_lt _ hh⟩
theorem next_snoc {F l : List Pt2} {p : Pt2} : nextW w h f s (F, l ++ [p]) = visit (visit (F, l) (ledP w h p f)) (ledP w h p s) := by
  unfold nextW
  simp
theorem OkW.pop {F l : List Pt2} {p : Pt2} (o : OkW w h (F, l ++ [p])) : OkW w h (F, l) ∧ (p.1 < w ∧ p.2 < h) ∧ meas (w * h) (F, l) < meas (w * h) (F, l ++ [p]) := by
  refine ⟨⟨o.nd, o.red, fun q hq => o.sub q (List.mem_append_left _ hq), ?_⟩, o.red p (o.sub p (List.mem_append_right _ (List.mem_singleton.mpr rfl))), ?_⟩
  · have := o.le
    simp only [List.length_append, List.length_singleton] at this ⊢
    omega
  · unfold meas
    simp only [List.length_append, List.length_singleton]
    omega
variable (t : OkT w h f s)
include t
theorem start_ok : OkW w h ([(0, 0)], [(0, 0)]) := ⟨List.nodup_cons.mpr ⟨by simp, List.nodup_nil⟩, fun p hp => by rw [List.mem_singleton.mp hp]; exact ⟨t.w1, t.h1⟩, fun p hp => hp, Nat.le_refl _⟩
theorem wh_eval {ρ' : Sto} : bin2 mulD (ixAt 0 (M.pure (.int 0))) (ixAt 0 (M.pure (.int 1))) (.val (tD w h f s) :: ρ') = some (.ok (.int ((w * h : Nat) : Int)) (.val (tD w h f s) :: ρ')) := by
  have m := mul_eval (a := w) (b := h) (by have := t.w12; omega)
  refine bind_ok (a := D.int w) (ρ1 := .val (tD w h f s) :: ρ') rfl (bind_ok (a := D.int h) (ρ1 := .val (tD w h f s) :: ρ') rfl ?_)
  simp only [M.lift, m, Option.map_some]
theorem visit_prog {T x3 : Slot} {a : Ws} (o : OkW w h a) {q : Pt2} : l_is_whole_0 [T, .own false (dP a.1), .own false (.lst (a.2.map pN)), x3, .val (pN q)] = some (.ok .nx [T, .own false (dP (visit a q).1), .own false (.lst ((visit a q).2.map pN)), x3, .val (pN q)]) := by
  have test : bin2 niD (rd 4) (pk 1) [T, .own false (dP a.1), .own false (.lst (a.2.map pN)), x3, .val (pN q)] = some (.ok (!decide (q ∈ a.1)) [T, .own false (dP a.1), .own false (.lst (a.2.map pN)), x3, .val (pN q)]) := ni_step (i := 4) (j := 1) rfl rfl rfl (ni_dP _ _)
  have l1 := Nat.le_trans o.len t.most
  have l2 := o.le
  unfold K04.visit
  by_cases c : q ∈ a.1
  · rw [decide_eq_true c] at test
    rw [if_pos c]
    exact if_ff test rfl
  · rw [decide_eq_false c] at test
    rw [if_neg c]
    refine if_tt test (seq_nx (put_ok (i := 1) (c := dP a.1) (c' := dP (a.1 ++ [q])) rfl rfl rfl (rd_val (i := 4) rfl) rfl (put_dP c (by omega))) ((drop_ok (append_ok (i := 2) rfl (rd_val (i := 4) rfl) rfl ?_)).trans ?_))
    · rw [List.length_map]; omega
    · rw [List.map_append]
      rfl
theorem is_whole_eval : d_is_whole [tD w h f s] = some (.ok (.bl (decide ((wholeP w h f s).1.length = w * h)))) := by
  have hw : 0 < w := t.w1
  have hh : 0 < h := t.h1
  let Inv : Ws → Sto → Prop := fun a ρ => OkW w h a ∧ ∃ x3 x4, ρ = [.val (tD w h f s), .own false (dP a.1), .own false (.lst (a.2.map pN)), x3, x4]
  obtain ⟨ρ', e, ⟨o, x3, x4, I⟩, -⟩ := while_runs (t := t_is_whole_0) (g := w_is_whole_0) Inv condW (nextW w h f s) (meas (w * h)) (fun a ρ ⟨o, x3, x4, I⟩ => by
    subst I
    refine ⟨[.val (tD w h f s), .own false (dP a.1), .own false (.lst (a.2.map pN)), x3, x4], testT_ok (f := pk 2) (d := D.lst (a.2.map pN)) rfl ?_, ⟨o, x3, x4, rfl⟩, fun c => ?_⟩
    · show some (!(a.2.map pN).isEmpty) = _
      unfold condW
      cases a.2 <;> rfl
    · obtain ⟨F, L⟩ := a
      obtain ⟨l, p, rfl⟩ : ∃ l p, L = l ++ [p] := ⟨L.dropLast, L.getLast (by rintro rfl; cases c), (List.dropLast_concat_getLast _).symm⟩
      obtain ⟨o1, hp, m⟩ := o.pop
      have q1 := led_lt (p := p) (q := f) hw hh
      have q2 := led_lt (p := p) (q := s) hw hh
      have o2 := o1.visit q1
      have o3 := o2.visit q2
      have m2 := meas_visit o1 q1
      have m3 := meas_visit o2 q2
      rw [next_snoc]
      refine ⟨by omega, _, seq_nx (ρ1 := [.val (tD w h f s), .own false (dP F), .own false (.lst (l.map pN)), .val (pN p), x4]) (set_ok (i := 3) (pop_ok (i := 2) rfl)) (for_ok (ds := [pN (ledP w h p f), pN (ledP w h p s)]) (ρ1 := [.val (tD w h f s), .own false (dP F), .own false (.lst (l.map pN)), .val (pN p), x4]) (bind_ok (call2_ok (rd_val (i := 0) rfl) (rd_val (i := 3) rfl) (ends_eval t hp.1 hp.2)) rfl) (for_cons_ok rfl (visit_prog t o1) (for_cons_ok rfl (visit_prog t o2) rfl))), o3, _, _, rfl⟩) 5000 ([(0, 0)], [(0, 0)]) [.val (tD w h f s), .own false (dP [(0, 0)]), .own false (.lst [pN (0, 0)]), .emp, .emp] ⟨start_ok t, .emp, .emp, rfl⟩ (by
      have := t.most
      unfold meas
      simp only [List.length_singleton]
      omega)
  subst I
  refine runD_ret (seq_nx (drop_ok (call1_ok (rd_val (i := 0) rfl) (check_eval t))) (seq_nx (own_ok (i := 1) rfl) (seq_nx (own_ok (i := 2) rfl) (seq_nx e (retM_ok (ρ1 := [.val (tD w h f s), .own false (dP (wholeP w h f s).1), .own false (.lst ((wholeP w h f s).2.map pN)), x3, x4]) (map_ok (bind_ok (a := .int (wholeP w h f s).1.length) (ρ1 := [.val (tD w h f s), .own false (dP (wholeP w h f s).1), .own false (.lst ((wholeP w h f s).2.map pN)), x3, x4]) ?_ (bind_ok (a := .int ((w * h : Nat) : Int)) (wh_eval t) ?_))))))))
  · refine bind_ok (a := [(dP (wholeP w h f s).1).d]) (ρ1 := [.val (tD w h f s), .own false (dP (wholeP w h f s).1), .own false (.lst ((wholeP w h f s).2.map pN)), x3, x4]) rfl ?_
    simp only [M.lift, len_dP, Option.map_some]
  · simp only [M.lift, eq_int, Option.map_some, Int.ofNat_inj]
theorem visit_law {T x3 x4 x5 : Slot} {a : Ws} (o : OkW w h a) {p q : Pt2} (hs : x3 = .val (pN p) ∧ x4 = .val (pN q) ∧ T = .val (tD w h f s)) : l__law_is_whole_0 [T, .own false (.lst (a.1.map pN)), .own false (.lst (a.2.map pN)), x3, x4, x5] = some (.ok .nx [T, .own false (.lst ((visit a (ledP w h p q)).1.map pN)), .own false (.lst ((visit a (ledP w h p q)).2.map pN)), x3, x4, .val (pN (ledP w h p q))]) := by
  obtain ⟨rfl, rfl, rfl⟩ := hs
  have hw : 0 < w := t.w1
  have hh : 0 < h := t.h1
  let r := ledP w h p q
  let σ : Sto := [.val (tD w h f s), .own false (.lst (a.1.map pN)), .own false (.lst (a.2.map pN)), .val (pN p), .val (pN q), .val (pN r)]
  have first : setM 5 (callM 3 d__law_led (consM (rd 0) (consM (rd 3) (consM (rd 4) (M.pure []))))) [.val (tD w h f s), .own false (.lst (a.1.map pN)), .own false (.lst (a.2.map pN)), .val (pN p), .val (pN q), x5] = some (.ok .nx σ) := by
    simp [setM, callM, consM, M.bind, M.pure, M.res, nArgs, rd, led_eval hw hh, List.set, σ, r]
  have test : bin2 niD (rd 5) (pk 1) σ = some (.ok (!decide (r ∈ a.1)) σ) := ni_step (i := 5) (j := 1) rfl rfl rfl (ni_pN _ _)
  have l1 := Nat.le_trans o.len t.most
  have l2 := o.le
  unfold K04.visit
  by_cases c : r ∈ a.1
  · rw [decide_eq_true c] at test
    rw [if_pos c]
    exact seq_nx first (if_ff test rfl)
  · rw [decide_eq_false c] at test
    rw [if_neg c]
    refine seq_nx first (if_tt test (seq_nx (drop_ok (append_ok (i := 1) rfl (rd_val (i := 5) rfl) rfl ?_)) ((drop_ok (append_ok (i := 2) rfl (rd_val (i := 5) rfl) rfl ?_)).trans ?_)))
    · rw [List.length_map]; omega
    · rw [List.length_map]; omega
    · rw [List.map_append, List.map_append]
      rfl
theorem law_is_whole_eval : d__law_is_whole [tD w h f s] = some (.ok (.bl (decide ((wholeP w h f s).1.length = w * h)))) := by
  have hw : 0 < w := t.w1
  have hh : 0 < h := t.h1
  let Inv : Ws → Sto → Prop := fun a ρ => OkW w h a ∧ ∃ x3 x4 x5, ρ = [.val (tD w h f s), .own false (.lst (a.1.map pN)), .own false (.lst (a.2.map pN)), x3, x4, x5]
  obtain ⟨ρ', e, ⟨o, x3, x4, x5, I⟩, -⟩ := while_runs (t := t__law_is_whole_0) (g := w__law_is_whole_0) Inv condW (nextW w h f s) (meas (w * h)) (fun a ρ ⟨o, x3, x4, x5, I⟩ => by
    subst I
    have nn : neD (.lst (a.2.map pN)) (.lst []) = some (condW a) := by
      have h2 : lay 9 (.lst (a.2.map pN)) = true := by
        show (a.2.map pN).all (lay 8) = true
        rw [List.all_eq_true]
        intro d hd
        obtain ⟨q, _, rfl⟩ := List.mem_map.mp hd
        exact lay_pN 7 q
      have h3 : lay 9 (.lst []) = true := rfl
      unfold neD
      rw [h2, h3]
      unfold condW
      cases a.2 <;> rfl
    refine ⟨[.val (tD w h f s), .own false (.lst (a.1.map pN)), .own false (.lst (a.2.map pN)), x3, x4, x5], ?_, ⟨o, x3, x4, x5, rfl⟩, fun c => ?_⟩
    · exact nilNe_ok (f := pk 2) (d := D.lst (a.2.map pN)) rfl nn
    · obtain ⟨F, L⟩ := a
      obtain ⟨l, p, rfl⟩ : ∃ l p, L = l ++ [p] := ⟨L.dropLast, L.getLast (by rintro rfl; cases c), (List.dropLast_concat_getLast _).symm⟩
      obtain ⟨o1, hp, m⟩ := o.pop
      have q1 := led_lt (p := p) (q := f) hw hh
      have q2 := led_lt (p := p) (q := s) hw hh
      have o2 := o1.visit q1
      have o3 := o2.visit q2
      have m2 := meas_visit o1 q1
      have m3 := meas_visit o2 q2
      rw [next_snoc]
      refine ⟨by omega, _, seq_nx (ρ1 := [.val (tD w h f s), .own false (.lst (F.map pN)), .own false (.lst (l.map pN)), .val (pN p), x4, x5]) (set_ok (i := 3) (pop_ok (i := 2) rfl)) (for_ok (ds := [pN f, pN s]) (ρ1 := [.val (tD w h f s), .own false (.lst (F.map pN)), .own false (.lst (l.map pN)), .val (pN p), x4, x5]) (bind_ok (a := D.tup [pN f, pN s]) rfl rfl) (for_cons_ok rfl (visit_law t o1 ⟨rfl, rfl, rfl⟩) (for_cons_ok rfl (visit_law t o2 ⟨rfl, rfl, rfl⟩) rfl))), o3, _, _, _, rfl⟩) 5000 ([(0, 0)], [(0, 0)]) [.val (tD w h f s), .own false (.lst [pN (0, 0)]), .own false (.lst [pN (0, 0)]), .emp, .emp, .emp] ⟨start_ok t, .emp, .emp, .emp, rfl⟩ (by
      have := t.most
      unfold meas
      simp only [List.length_singleton]
      omega)
  subst I
  refine runD_ret (seq_nx (ρ1 := [.val (tD w h f s), .own false (.lst [pN (0, 0)]), .own false (.lst [pN (0, 0)]), .emp, .emp, .emp]) rfl (seq_nx e (retM_ok (ρ1 := [.val (tD w h f s), .own false (.lst ((wholeP w h f s).1.map pN)), .own false (.lst ((wholeP w h f s).2.map pN)), x3, x4, x5]) (map_ok (bind_ok (a := .int (wholeP w h f s).1.length) (ρ1 := [.val (tD w h f s), .own false (.lst ((wholeP w h f s).1.map pN)), .own false (.lst ((wholeP w h f s).2.map pN)), x3, x4, x5]) ?_ (bind_ok (a := .int ((w * h : Nat) : Int)) (wh_eval t) ?_))))))
  · refine bind_ok (a := [.lst ((wholeP w h f s).1.map pN)]) rfl ?_
    simp only [M.lift, len_lst, List.length_map, Option.map_some]
    rfl
  · simp only [M.lift, eq_int, Option.map_some, Int.ofNat_inj]
end
end K04

namespace K04
open Dn
/-! ### alike: what is the same is found alike -/
def good : Nat → D → Bool
  | _, .non => true
  | _, .bl _ => true
  | _, .int _ => true
  | _, .str x => x.cps.all (· < 0x110000)
  | n + 1, .tup l => decide (l.length ≤ 100000) && l.all (good n)
  | n + 1, .lst l => decide (l.length ≤ 100000) && l.all (good n)
  | _, _ => false
theorem rng_eval' {n : Nat} (hn : n ≤ 100000) : rng1 [.int n] = some ((List.range n).map fun (i : Nat) => D.int i) := by
  show (if -100000 ≤ (n : Int) ∧ (n : Int) ≤ 100000 then some (rangeL 0 (n : Int).toNat) else none) = _
  rw [if_pos (by omega), Int.toNat_natCast, rangeL0]
theorem alike_seq {d : D} {l : List D} (hd : d = .tup l ∨ d = .lst l) (hl : l.length ≤ 100000) {rec : Den D} (hr : ∀ x ∈ l, rec [x, x] = some (.ok (.bl true))) : runD 3 (g__law_alike rec) [d, d] = some (.ok (.bl true)) := by
  have e1 : isi2M .tuple .list (rd 1) [.val d, .val d, .emp] = some (.ok (.bl true) [.val d, .val d, .emp]) := by
    rcases hd with rfl | rfl <;> rfl
  have e0 : isi2M .tuple .list (rd 0) [.val d, .val d, .emp] = some (.ok (.bl true) [.val d, .val d, .emp]) := by
    rcases hd with rfl | rfl <;> rfl
  have len : lenD [d] = some (.int l.length) := by
    rcases hd with rfl | rfl <;> rfl
  have l0 : (M.bind (oneM (pk 0)) fun ds => M.lift (lenD ds)) [.val d, .val d, .emp] = some (.ok (.int l.length) [.val d, .val d, .emp]) := by
    refine bind_ok (a := [d]) (ρ1 := [.val d, .val d, .emp]) rfl ?_
    simp only [M.lift, len, Option.map_some]
  have l1 : (M.bind (oneM (pk 1)) fun ds => M.lift (lenD ds)) [.val d, .val d, .emp] = some (.ok (.int l.length) [.val d, .val d, .emp]) := by
    refine bind_ok (a := [d]) (ρ1 := [.val d, .val d, .emp]) rfl ?_
    simp only [M.lift, len, Option.map_some]
  have at0 : ∀ i (hi : i < l.length), ixD d (.int (i : Int)) = some l[i] := fun i hi => by
    have z : L2.atI l (i : Int) = some l[i] := by
      unfold L2.atI L2.ixN
      rw [if_pos (by omega), if_pos (by omega)]
      simp [hi]
    rcases hd with rfl | rfl <;> exact z
  let tt : M Bool := notM (testB (callM 2 rec (consM (ixAt 0 (rd 2)) (consM (ixAt 1 (rd 2)) (M.pure [])))))
  have lc := lc_runs (vs := [2]) (t := .nm 2) (tt := tt) (f := rd 2) (ρ := [.val d, .val d, .emp]) (fun (i : Nat) => D.int i) (fun _ => false) (fun (i : Nat) => D.int i) (List.range l.length) [] (fun i hi => by
    have hi' := List.mem_range.mp hi
    refine ⟨_, [.val d, .val d, .val (.int i)], rfl, ?_, (fun _ => rfl), (fun h => by cases h)⟩
    have c : callM 2 rec (consM (ixAt 0 (rd 2)) (consM (ixAt 1 (rd 2)) (M.pure []))) [.val d, .val d, .val (.int i)] = some (.ok (.bl true) [.val d, .val d, .val (.int i)]) := by
      refine call2_ok (ρ1 := [.val d, .val d, .val (.int i)]) (a := l[i]) (b := l[i]) ?_ ?_ (hr _ (List.getElem_mem hi'))
      · simp [ixAt, M.bind, pk, rd, ixHere, Slot.d?, at0 i hi']
      · simp [ixAt, M.bind, pk, rd, ixHere, Slot.d?, at0 i hi']
    exact map_ok (g := (!·)) (a := true) (bind_ok c rfl)) (by rw [List.length_range, List.length_nil]; omega)
  have fe : (List.range l.length).filter (fun _ => false) = [] := by simp
  rw [fe, List.map_nil, List.nil_append] at lc
  refine runD_ret (seq_ret (if_tt (bind_ok e1 rfl) (seq_nx (if_ff (ρ1 := [.val d, .val d, .emp]) ?_ rfl) (seq_nx (if_ff (ρ1 := [.val d, .val d, .emp]) ?_ rfl) (retM_ok (ρ1 := [.val d, .val d, .emp]) (map_ok (a := true) (bind_ok (a := D.lst []) (ρ1 := [.val d, .val d, .emp]) (map_ok (a := Co.lst []) (lc_ok (ds := (List.range l.length).map fun (i : Nat) => D.int i) (ρ1 := [.val d, .val d, .emp]) ?_ lc)) rfl)))))))
  · refine bind_ok (map_ok (a := true) (bind_ok e0 rfl)) ?_
    rcases hd with rfl | rfl <;> rfl
  · refine bind_ok l0 (bind_ok l1 ?_)
    simp [M.lift, ne_int]
  · refine bind_ok (bind_ok l1 rfl) ?_
    simp only [M.lift, rng_eval' hl, Option.map_some]
theorem alike_leaf {d : D} {rec : Den D} (h : d = .non ∨ (∃ b, d = .bl b) ∨ (∃ i, d = .int i) ∨ ∃ x : PySem.Str, d = .str x ∧ x.cps.all (· < 0x110000) = true) : runD 3 (g__law_alike rec) [d, d] = some (.ok (.bl true)) := by
  rcases h with rfl | ⟨b, rfl⟩ | ⟨i, rfl⟩ | ⟨x, rfl, hx⟩
  · rfl
  · cases b <;> rfl
  · have e : eqD (.int i) (.int i) = some true := by rw [eq_int]; simp
    have e2 : eqD (.bl false) (.bl false) = some true := rfl
    simp [g__law_alike, runD, start0, seqS, ifM, testB, isi2M, isiM, M.bind, M.pure, M.map, rd, pk, isTy, D.b?, M.lift, bin2, isD, D.isNon, Dn.orM, retM, andD, e, e2, Slot.d?]
  · have e : eqD (.str x) (.str x) = some true := by
      unfold eqD
      have h1 : lay 9 (.str x) = true := hx
      rw [h1]
      simp [eqv]
    have e2 : eqD (.bl true) (.bl true) = some true := rfl
    simp [g__law_alike, runD, start0, seqS, ifM, testB, isi2M, isiM, M.bind, M.pure, M.map, rd, pk, isTy, D.b?, M.lift, bin2, isD, D.isNon, Dn.orM, retM, andD, e, e2, Slot.d?]
theorem alike_self : ∀ (n : Nat) (d : D), good n d = true → d__law_alike (n + 1) [d, d] = some (.ok (.bl true))
  | n, .non, _ => alike_leaf (.inl rfl)
  | n, .bl b, _ => alike_leaf (.inr (.inl ⟨b, rfl⟩))
  | n, .int i, _ => alike_leaf (.inr (.inr (.inl ⟨i, rfl⟩)))
  | n, .str x, h => alike_leaf (.inr (.inr (.inr ⟨x, rfl, by cases n <;> exact h⟩)))
  | n + 1, .tup l, h => by
    have h' : (decide (l.length ≤ 100000) && l.all (good n)) = true := h
    rw [Bool.and_eq_true, decide_eq_true_iff] at h'
    exact alike_seq (.inl rfl) h'.1 fun x hx => alike_self n x (List.all_eq_true.mp h'.2 x hx)
  | n + 1, .lst l, h => by
    have h' : (decide (l.length ≤ 100000) && l.all (good n)) = true := h
    rw [Bool.and_eq_true, decide_eq_true_iff] at h'
    exact alike_seq (.inr rfl) h'.1 fun x hx => alike_self n x (List.all_eq_true.mp h'.2 x hx)
  | 0, .tup l, h => by cases h
  | 0, .lst l, h => by cases h
  | n, .dic _ _ _, h => by cases n <;> cases h
  | n, .scr _, h => by cases n <;> cases h
theorem good_pN (n : Nat) (p : Pt2) : good (n + 1) (pN p) = true := by simp [pN, good]
theorem good_srt (n : Nat) {l : List Pt2} (hl : l.length ≤ 100000) : good (n + 2) (.tup (srt l)) = true := by
  unfold good
  rw [Bool.and_eq_true, decide_eq_true_iff, srt_len, List.all_eq_true]
  refine ⟨hl, fun d hd => ?_⟩
  unfold srt at hd
  obtain ⟨z, _, rfl⟩ := List.mem_map.mp hd
  simp [pD, good]
end K04

namespace K04
open Dn
def rowD (ns : List Int) (i sd c : Int) : List D := [.scr ns, .int i, .int sd, .int c]
theorem ix_r0 (a b c e : D) : ixD (.lst [a, b, c, e]) (.int 0) = some a := rfl
theorem ix_r1 (a b c e : D) : ixD (.lst [a, b, c, e]) (.int 1) = some b := rfl
theorem ix_r2 (a b c e : D) : ixD (.lst [a, b, c, e]) (.int 2) = some c := rfl
theorem ix_r3 (a b c e : D) : ixD (.lst [a, b, c, e]) (.int 3) = some e := rfl
theorem put_r1 (a b c e d : D) : putC (.int 1) d (.lst [a, b, c, e]) = some (.lst [a, d, c, e]) := rfl
theorem put_r2 (a b c e d : D) : putC (.int 2) d (.lst [a, b, c, e]) = some (.lst [a, b, d, e]) := rfl
theorem put_r3 (a b c e d : D) : putC (.int 3) d (.lst [a, b, c, e]) = some (.lst [a, b, c, d]) := rfl
theorem int_int (i : Int) : Dn.intD [.int i] = some (.int i) := rfl
theorem len_scr (ns : List Int) : lenD [.scr ns] = some (.int ns.length) := rfl
theorem add_int (i j : Int) : addD (.int i) (.int j) = some (.int (i + j)) := rfl
theorem sub_int (i j : Int) : subD (.int i) (.int j) = some (.int (i - j)) := rfl
theorem mod_int {i j : Int} (h : j ≠ 0) : modD (.int i) (.int j) = some (.int (i.fmod j)) := by
  unfold modD gI
  simp [h]
theorem div_int {i j : Int} (h : j ≠ 0) (h2 : j.natAbs < 1073741824) : divD (.int i) (.int j) = some (.int (i.fdiv j)) := by
  unfold divD gI
  simp [h, h2]
theorem mul_int {i j : Int} (h : -(2 ^ 64) < i ∧ i < 2 ^ 64) : mulD (.int i) (.int j) = some (.int (i * j)) := by
  unfold mulD gI
  have h2 : decide ((-(2 ^ 64) < i ∧ i < 2 ^ 64) ∨ (-(2 ^ 64) < j ∧ j < 2 ^ 64)) = true := decide_eq_true (Or.inl h)
  simp only [h2, if_true]
theorem gt_int (i j : Int) : gtD (.int i) (.int j) = some (decide (j < i)) := rfl
theorem ge_int (i j : Int) : geD (.int i) (.int j) = some (decide (j ≤ i)) := rfl
theorem lt_int (i j : Int) : ltD (.int i) (.int j) = some (decide (i < j)) := rfl
theorem pow_18 : powD (.int 10) (.int 18) = some (.int (10 ^ 18)) := by
  show (if powC 10 18 = true then some (D.int (10 ^ (18 : Int).toNat)) else none) = _
  rw [if_pos (by decide)]
  rfl
section
variable {ns : List Int} {i sd c : Int}
theorem taken_eval {many : Int} (hi : 0 ≤ i) (h0 : 0 ≤ sd) (h1 : sd < 2147483647) (hm : 0 < many) (hm2 : many < 100000) :
    ∃ r i' sd' c', d__law_taken (rowD ns i sd c) [.int many] = some (.ok (.int r, rowD ns i' sd' c')) ∧ 0 ≤ r ∧ r < many ∧ 0 ≤ i' ∧ 0 ≤ sd' ∧ sd' < 2147483647 := by
  have m0 : many ≠ 0 := by omega
  have mb : many.natAbs < 1073741824 := by omega
  have fm : ∀ x : Int, 0 ≤ x.fmod many ∧ x.fmod many < many := fun x => ⟨Int.fmod_nonneg_of_pos x hm, Int.fmod_lt_of_pos x hm⟩
  have fb : ∀ x : Int, 0 ≤ x.fmod 2147483647 ∧ x.fmod 2147483647 < 2147483647 := fun x => ⟨Int.fmod_nonneg_of_pos x (by decide), Int.fmod_lt_of_pos x (by decide)⟩
  have p0 : (2147483647 : Int) ≠ 0 := by decide
  have sdr : -(2 ^ 64) < sd ∧ sd < 2 ^ 64 := by omega
  by_cases hc : 0 < c
  · refine ⟨c.fmod many, i, sd, c.fdiv many, ?_, (fm c).1, (fm c).2, hi, h0, h1⟩
    simp [d__law_taken, g__law_taken, runL, startL, rowD, seqS, ifM, bin2, M.bind, M.pure, M.lift, ixAt, pk, rd, ixHere, Slot.d?, Co.d, ix_r0, ix_r1, ix_r2, ix_r3, put_r1, put_r2, put_r3, int_int, gt_int, hc, setM, putM, put, retM, oneM, M.map, mod_int m0, div_int m0 mb, List.set]
  · by_cases hl : (ns.length : Int) < i + 1
    · have fs : ∀ x : Int, -(2 ^ 64) < x.fmod 2147483647 ∧ x.fmod 2147483647 < 2 ^ 64 := fun x => by have := fb x; omega
      refine ⟨(((sd * 48271 + 11).fmod 2147483647).fdiv 7).fmod many, i + 1, (sd * 48271 + 11).fmod 2147483647, c, ?_, (fm _).1, (fm _).2, by omega, (fb _).1, (fb _).2⟩
      simp [d__law_taken, g__law_taken, runL, startL, rowD, seqS, ifM, bin2, M.bind, M.pure, M.lift, ixAt, pk, rd, ixHere, Slot.d?, Co.d, ix_r0, ix_r1, ix_r2, ix_r3, put_r1, put_r2, put_r3, int_int, gt_int, hc, hl, setM, putM, put, retM, oneM, M.map, mod_int m0, mod_int p0, div_int m0 mb, div_int (j := 7) (by decide) (by decide), add_int, len_scr, mul_int sdr, List.set]
    · have hlt : i.toNat < ns.length := by omega
      let cell := ns[i.toNat]
      have hcell : ixD (.scr ns) (.int i) = some (.int cell) := by
        show (L2.atI ns i).map D.int = _
        unfold L2.atI L2.ixN
        rw [if_pos hi, if_pos (by omega)]
        simp [hlt, cell]
      by_cases hb : (10 : Int) ^ 18 ≤ cell
      · refine ⟨cell.fmod many, i + 1, (sd * 48271 + cell + 11).fmod 2147483647, cell.fdiv many, ?_, (fm _).1, (fm _).2, by omega, (fb _).1, (fb _).2⟩
        simp only [d__law_taken, g__law_taken, runL, startL, rowD, seqS, ifM, bin2, M.bind, M.pure, M.lift, ixAt, pk, rd, ixHere, Slot.d?, Co.d, ix_r0, ix_r1, ix_r2, ix_r3, put_r1, put_r2, put_r3, int_int, gt_int, ge_int, pow_18, setM, putM, put, retM, oneM, M.map, mod_int m0, mod_int p0, div_int m0 mb, add_int, sub_int, len_scr, mul_int sdr, List.set, List.map_cons, List.map_nil, List.cons_append, List.nil_append, List.getElem?_cons_zero, List.getElem?_cons_succ, Option.map_some, decide_eq_false hc, decide_eq_false hl, decide_eq_true hb, Int.add_sub_cancel, hcell, if_true, Bool.false_eq_true, if_false, List.length_cons, List.length_nil, List.replicate]
      · refine ⟨cell.fmod many, i + 1, (sd * 48271 + cell + 11).fmod 2147483647, c, ?_, (fm _).1, (fm _).2, by omega, (fb _).1, (fb _).2⟩
        simp only [d__law_taken, g__law_taken, runL, startL, rowD, seqS, ifM, bin2, M.bind, M.pure, M.lift, ixAt, pk, rd, ixHere, Slot.d?, Co.d, ix_r0, ix_r1, ix_r2, ix_r3, put_r1, put_r2, put_r3, int_int, gt_int, ge_int, pow_18, setM, putM, put, retM, oneM, M.map, mod_int m0, mod_int p0, div_int m0 mb, add_int, sub_int, len_scr, mul_int sdr, List.set, List.map_cons, List.map_nil, List.cons_append, List.nil_append, List.getElem?_cons_zero, List.getElem?_cons_succ, Option.map_some, decide_eq_false hc, decide_eq_false hl, decide_eq_false hb, Int.add_sub_cancel, hcell, if_true, Bool.false_eq_true, if_false, List.length_cons, List.length_nil, List.replicate]
/-- one of them -/
theorem pick_eval {l : List Pt2} (hi : 0 ≤ i) (h0 : 0 ≤ sd) (h1 : sd < 2147483647) (hl : l ≠ []) (hm2 : l.length < 100000) :
    ∃ p i' sd' c', d__law_pick (rowD ns i sd c) [.lst (l.map pN)] = some (.ok (pN p, rowD ns i' sd' c')) ∧ p ∈ l ∧ 0 ≤ i' ∧ 0 ≤ sd' ∧ sd' < 2147483647 := by
  have hpos := List.length_pos_iff.mpr hl
  obtain ⟨r, i', sd', c', e, r0, r1, a1, a2, a3⟩ := taken_eval (ns := ns) (i := i) (sd := sd) (c := c) (many := (l.length : Int)) hi h0 h1 (by omega) (by omega)
  have hr : r.toNat < l.length := by omega
  refine ⟨l[r.toNat], i', sd', c', ?_, List.getElem_mem hr, a1, a2, a3⟩
  have z : ixD (.lst (l.map pN)) (.int r) = some (pN l[r.toNat]) := by
    show L2.atI (l.map pN) r = _
    unfold L2.atI L2.ixN
    rw [if_pos r0, if_pos (by rw [List.length_map]; omega)]
    simp [hr]
  have le : lenD [.lst (l.map pN)] = some (.int l.length) := by rw [len_lst, List.length_map]
  have ld : lendM 0 2 d__law_taken (consM (M.bind (oneM (pk 1)) fun ds => M.lift (lenD ds)) (M.pure [])) [.own true (.lst (rowD ns i sd c)), .val (.lst (l.map pN))] = some (.ok (.int r) [.own true (.lst (rowD ns i' sd' c')), .val (.lst (l.map pN))]) := by
    refine bind_ok (a := D.lst (rowD ns i sd c)) (ρ1 := [.own true (.lst (rowD ns i sd c)), .val (.lst (l.map pN))]) rfl (bind_ok (a := [.int l.length]) (ρ1 := [.own true (.lst (rowD ns i sd c)), .val (.lst (l.map pN))]) (bind_ok (a := .int l.length) (ρ1 := [.own true (.lst (rowD ns i sd c)), .val (.lst (l.map pN))]) (bind_ok (a := [D.lst (l.map pN)]) rfl ?_) rfl) ?_)
    · simp only [M.lift, le, Option.map_some]
    · simp only [List.length_cons, List.length_nil, Nat.zero_add, Nat.reduceAdd, if_true, lend, List.getElem?_cons_zero, e]
      rfl
  have fin : g__law_pick [.own true (.lst (rowD ns i sd c)), .val (.lst (l.map pN))] = some (.ok (.ret (pN l[r.toNat])) [.own true (.lst (rowD ns i' sd' c')), .val (.lst (l.map pN))]) := by
    refine retM_ok (bind_ok (a := D.lst (l.map pN)) (ρ1 := [.own true (.lst (rowD ns i sd c)), .val (.lst (l.map pN))]) rfl (bind_ok ld ?_))
    simp only [ixHere, List.getElem?_cons_succ, List.getElem?_cons_zero, z, Option.map_some]
  show (match g__law_pick [.own true (.lst (rowD ns i sd c)), .val (.lst (l.map pN))] with
    | some (.ok (.ret d) (.own true (.lst rs') :: _)) => some (Except.ok (d, rs'))
    | _ => none) = _
  rw [fin]
end
end K04

namespace K04
open Dn
theorem lendM_ok {i n : Nat} {den : List D → Den (D × List D)} {fs : M (List D)} {ρ ρ1 : Sto} {b b1 : Bool} {rs0 rs rs' ds : List D} {d : D} (h0 : ρ[i]? = some (.own b (.lst rs0))) (h1 : fs ρ = some (.ok ds ρ1)) (h2 : ρ1[i]? = some (.own b1 (.lst rs))) (hn : ds.length + 1 = n) (h3 : den rs ds = some (.ok (d, rs'))) :
    lendM i n den fs ρ = some (.ok d (ρ1.set i (.own b1 (.lst rs')))) := by
  refine bind_ok (ρ1 := ρ) (a := D.lst rs0) ?_ (bind_ok h1 ?_)
  · unfold pk
    simp only [h0]
    rfl
  · rw [if_pos hn]
    unfold lend
    simp only [h2, h3]
theorem bin2_ok {α : Type} {g : D → D → Option α} {fa fb : M D} {ρ ρ1 ρ2 : Sto} {a b : D} {r : α} (h1 : fa ρ = some (.ok a ρ1)) (h2 : fb ρ1 = some (.ok b ρ2)) (h3 : g a b = some r) : bin2 g fa fb ρ = some (.ok r ρ2) := bind_ok h1 (bind_ok h2 (by simp only [M.lift, h3, Option.map_some]))
theorem one_ok {fa : M D} {ρ ρ1 : Sto} {a : D} (h : fa ρ = some (.ok a ρ1)) : consM fa (M.pure []) ρ = some (.ok [a] ρ1) := bind_ok h rfl
theorem min_int (i j : Int) : int2 (fun i j => some (if j < i then j else i)) [.int i, .int j] = some (.int (if j < i then j else i)) := rfl
/-- the state of the numbers that are taken -/
def OkR (i sd : Int) : Prop := 0 ≤ i ∧ 0 ≤ sd ∧ sd < 2147483647
theorem town_eval {ns : List Int} {i sd c : Int} {side most : Nat} (k : OkR i sd) (s2 : 2 ≤ side) (s12 : side ≤ 12) (m2 : 2 ≤ most) (m60 : most ≤ 144) :
    ∃ w h f s i' sd' c', d__law_town (rowD ns i sd c) [.int side, .int most] = some (.ok (tD w h f s, rowD ns i' sd' c')) ∧ OkT w h f s ∧ w * h ≤ most ∧ w ≤ side ∧ h ≤ side ∧ OkR i' sd' := by
  obtain ⟨k1, k2, k3⟩ := k
  -- the sides
  obtain ⟨r1, i1, sd1, c1, e1, a1, b1, x1, y1, z1⟩ := taken_eval (ns := ns) (i := i) (sd := sd) (c := c) (many := if (most : Int) < (side : Int) then (most : Int) else (side : Int)) k1 k2 k3 (by split <;> omega) (by split <;> omega)
  obtain ⟨W, hW⟩ : ∃ W : Nat, (W : Int) = 1 + r1 := ⟨(1 + r1).toNat, by omega⟩
  have hW1 : 1 ≤ W := by omega
  have hW2 : W ≤ most := by split at b1 <;> omega
  have hW3 : W ≤ side := by split at b1 <;> omega
  have dv := div_eval (a := most) (b := W) (by omega) (by omega)
  have hq : 1 ≤ most / W := (Nat.le_div_iff_mul_le (by omega)).mpr (by omega)
  have hq2 : most / W ≤ 144 := Nat.le_trans (Nat.div_le_self _ _) m60
  obtain ⟨r2, i2, sd2, c2, e2, a2, b2, x2, y2, z2⟩ := taken_eval (ns := ns) (i := i1) (sd := sd1) (c := c1) (many := if ((most / W : Nat) : Int) < (side : Int) then ((most / W : Nat) : Int) else (side : Int)) x1 y1 z1 (by split <;> omega) (by split <;> omega)
  obtain ⟨H, hH⟩ : ∃ H : Nat, (H : Int) = 1 + r2 := ⟨(1 + r2).toNat, by omega⟩
  have hH1 : 1 ≤ H := by omega
  have hH2 : H ≤ most / W := by split at b2 <;> omega
  have hH3 : H ≤ side := by split at b2 <;> omega
  have hWH : W * H ≤ most := Nat.le_trans (Nat.mul_le_mul_left W hH2) (Nat.mul_div_le most W)
  obtain ⟨V, hV⟩ : ∃ V : Nat, V = if W * H < 2 then 2 else W := ⟨_, rfl⟩
  have hpos : 1 ≤ W * H := Nat.mul_pos hW1 hH1
  have hV0 : 1 ≤ V ∧ V ≤ side ∧ V * H ≤ most ∧ 2 ≤ V * H := by
    subst hV
    split
    · rename_i q
      have w1 : W * H = 1 := by omega
      have h1 : H = 1 := Nat.eq_one_of_mul_eq_one_left w1
      rw [h1]
      omega
    · omega
  have mm := mul_eval (a := W) (b := H) (by omega)
  have cr := law_crossings_gen (T := .tup [.int V, .int H]) rfl rfl (show V ≤ 12 by omega) (show H ≤ 12 by omega)
  have pl := len_places V H
  have pn : placesP V H ≠ [] := fun e => by rw [e] at pl; simp at pl; omega
  obtain ⟨f, i3, sd3, c3, e3, hf, x3, y3, z3⟩ := pick_eval (ns := ns) (i := i2) (sd := sd2) (c := c2) (l := placesP V H) x2 y2 z2 pn (by omega)
  let rest := (placesP V H).filter fun p => !decide (p = f)
  have hr : rest ≠ [] := fun e => by
    have h1 : ∀ p ∈ placesP V H, p ∈ [f] := fun p hp => by
      rw [List.mem_singleton]
      exact Decidable.byContradiction fun n => by
        have : p ∈ rest := List.mem_filter.mpr ⟨hp, by simp [n]⟩
        rw [e] at this
        cases this
    have := length_le_of_mem (places_nodup V H) h1
    rw [pl] at this
    simp only [List.length_singleton] at this
    omega
  have hrl : rest.length ≤ 144 := by
    refine Nat.le_trans (List.length_filter_le _ _) ?_
    omega
  obtain ⟨s, i4, sd4, c4, e4, hs, x4, y4, z4⟩ := pick_eval (ns := ns) (i := i3) (sd := sd3) (c := c3) (l := rest) x3 y3 z3 hr (by omega)
  have hs' := List.mem_filter.mp hs
  have hsf : s ≠ f := by simpa using hs'.2
  have hfm := mem_places.mp hf
  have hsm := mem_places.mp hs'.1
  refine ⟨V, H, f, s, i4, sd4, c4, ?_, ⟨hV0.1, by omega, hH1, by omega, hV0.2.2.2, by omega, hfm.1, hfm.2, hsm.1, hsm.2, fun e => hsf e.symm⟩, hV0.2.2.1, hV0.2.1, hH3, x4, y4, z4⟩
  let S (row : List D) (a b d e : Slot) : Sto := [.own true (.lst row), .val (.int side), .val (.int most), a, b, d, e, .emp]
  have t1 : setM 3 (bin2 addD (M.pure (.int 1)) (lendM 0 2 d__law_taken (consM (M.bind (consM (rd 1) (consM (rd 2) (M.pure []))) fun ds => M.lift (int2 (fun i j => some (if j < i then j else i)) ds)) (M.pure [])))) (S (rowD ns i sd c) .emp .emp .emp .emp) = some (.ok .nx (S (rowD ns i1 sd1 c1) (.val (.int W)) .emp .emp .emp)) := by
    refine Eq.trans (set_ok (ρ1 := S (rowD ns i1 sd1 c1) .emp .emp .emp .emp) (d := .int W) (bind_ok rfl (bind_ok (lendM_ok (i := 0) (ρ1 := S (rowD ns i sd c) .emp .emp .emp .emp) rfl (one_ok (bind_ok (a := [D.int side, .int most]) rfl rfl)) rfl rfl e1) ?_))) rfl
    simp only [M.lift, add_int, hW, Option.map_some]
    rfl
  have t2 : setM 4 (bin2 addD (M.pure (.int 1)) (lendM 0 2 d__law_taken (consM (M.bind (consM (rd 1) (consM (bin2 divD (rd 2) (rd 3)) (M.pure []))) fun ds => M.lift (int2 (fun i j => some (if j < i then j else i)) ds)) (M.pure [])))) (S (rowD ns i1 sd1 c1) (.val (.int W)) .emp .emp .emp) = some (.ok .nx (S (rowD ns i2 sd2 c2) (.val (.int W)) (.val (.int H)) .emp .emp)) := by
    refine Eq.trans (set_ok (ρ1 := S (rowD ns i2 sd2 c2) (.val (.int W)) .emp .emp .emp) (d := .int H) (bind_ok rfl (bind_ok (lendM_ok (i := 0) (ρ1 := S (rowD ns i1 sd1 c1) (.val (.int W)) .emp .emp .emp) rfl (one_ok (a := D.int (if ((most / W : Nat) : Int) < (side : Int) then ((most / W : Nat) : Int) else (side : Int))) (bind_ok (a := [D.int side, .int ((most / W : Nat) : Int)]) (ρ1 := S (rowD ns i1 sd1 c1) (.val (.int W)) .emp .emp .emp) ?_ rfl)) rfl rfl e2) ?_))) rfl
    · refine bind_ok (a := D.int side) (ρ1 := S (rowD ns i1 sd1 c1) (.val (.int W)) .emp .emp .emp) rfl (bind_ok (a := [D.int ((most / W : Nat) : Int)]) (ρ1 := S (rowD ns i1 sd1 c1) (.val (.int W)) .emp .emp .emp) (bind_ok (a := D.int ((most / W : Nat) : Int)) (ρ1 := S (rowD ns i1 sd1 c1) (.val (.int W)) .emp .emp .emp) (bind_ok (a := D.int most) rfl (bind_ok (a := D.int W) rfl ?_)) rfl) rfl)
      simp only [M.lift, dv, Option.map_some]
    · simp only [M.lift, add_int, hH, Option.map_some]
      rfl
  have t3 : setM 3 (iteM (bin2 ltD (bin2 mulD (rd 3) (rd 4)) (M.pure (.int 2))) (M.pure (.int 2)) (rd 3)) (S (rowD ns i2 sd2 c2) (.val (.int W)) (.val (.int H)) .emp .emp) = some (.ok .nx (S (rowD ns i2 sd2 c2) (.val (.int V)) (.val (.int H)) .emp .emp)) := by
    refine Eq.trans (set_ok (ρ1 := S (rowD ns i2 sd2 c2) (.val (.int W)) (.val (.int H)) .emp .emp) (d := .int V) (bind_ok (a := decide (W * H < 2)) (ρ1 := S (rowD ns i2 sd2 c2) (.val (.int W)) (.val (.int H)) .emp .emp) (bind_ok (a := D.int ((W * H : Nat) : Int)) (ρ1 := S (rowD ns i2 sd2 c2) (.val (.int W)) (.val (.int H)) .emp .emp) (bind_ok (a := D.int W) rfl (bind_ok (a := D.int H) rfl ?_)) (bind_ok (a := D.int 2) rfl ?_)) ?_)) rfl
    · simp only [M.lift, mm, Option.map_some]
    · have q : ∀ n : Nat, decide ((n : Int) < 2) = decide (n < 2) := fun n => decide_eq_decide.mpr (by omega)
      simp only [M.lift, lt_int, Option.map_some, q]
    · by_cases q : W * H < 2
      · rw [if_pos (decide_eq_true q)]
        rw [if_pos q] at hV
        subst hV
        rfl
      · rw [if_neg (by simpa using q)]
        rw [if_neg q] at hV
        subst hV
        rfl
  have t4 : ownM 5 (callM 1 d__law_crossings (consM (tupM (consM (rd 3) (consM (rd 4) (M.pure [])))) (M.pure []))) (S (rowD ns i2 sd2 c2) (.val (.int V)) (.val (.int H)) .emp .emp) = some (.ok .nx (S (rowD ns i2 sd2 c2) (.val (.int V)) (.val (.int H)) (.own false (.lst ((placesP V H).map pN))) .emp)) :=
    Eq.trans (own_ok (ρ1 := S (rowD ns i2 sd2 c2) (.val (.int V)) (.val (.int H)) .emp .emp) (call1_ok rfl cr)) rfl
  have t5 : setM 6 (lendM 0 2 d__law_pick (consM (rd 5) (M.pure []))) (S (rowD ns i2 sd2 c2) (.val (.int V)) (.val (.int H)) (.own false (.lst ((placesP V H).map pN))) .emp) = some (.ok .nx (S (rowD ns i3 sd3 c3) (.val (.int V)) (.val (.int H)) (.val (.lst ((placesP V H).map pN))) (.val (pN f)))) :=
    Eq.trans (set_ok (lendM_ok (i := 0) (ρ1 := S (rowD ns i2 sd2 c2) (.val (.int V)) (.val (.int H)) (.val (.lst ((placesP V H).map pN))) .emp) rfl (one_ok (a := D.lst ((placesP V H).map pN)) rfl) rfl rfl e3)) rfl
  let σ := S (rowD ns i3 sd3 c3) (.val (.int V)) (.val (.int H)) (.val (.lst ((placesP V H).map pN))) (.val (pN f))
  have lc := lc_runs (vs := [7]) (t := .nm 7) (tt := c__law_town_0) (f := e__law_town_0) (ρ := σ) pN (fun p => !decide (p = f)) pN (placesP V H) [] (fun p _ => by
    refine ⟨σ.set 7 (.val (pN p)), σ.set 7 (.val (pN p)), rfl, ?_, fun _ => rfl, fun _ => ⟨σ.set 7 (.val (pN p)), rfl, rfl⟩⟩
    exact bin2_ok (fa := rd 7) (fb := pk 6) (a := pN p) (b := pN f) (ρ1 := σ.set 7 (.val (pN p))) rfl rfl (ne_pN p f)) (by simp only [List.length_nil]; omega)
  rw [List.nil_append] at lc
  let F := S (rowD ns i4 sd4 c4) (.val (.int V)) (.val (.int H)) (.val (.lst ((placesP V H).map pN))) (.val (pN f))
  have l4 : lendM 0 2 d__law_pick (consM (M.map (lcM [7] (.nm 7) (seqM (rd 5)) (c__law_town_0) (e__law_town_0)) Co.d) (M.pure [])) σ = some (.ok (pN s) F) :=
    (lendM_ok (i := 0) rfl (one_ok (map_ok (lc_ok (ds := (placesP V H).map pN) (ρ1 := σ) rfl lc))) rfl rfl e4).trans rfl
  have t6 : retM (tupM (consM (rd 3) (consM (rd 4) (consM (rd 6) (consM (lendM 0 2 d__law_pick (consM (M.map (lcM [7] (.nm 7) (seqM (rd 5)) (c__law_town_0) (e__law_town_0)) Co.d) (M.pure []))) (M.pure [])))))) σ = some (.ok (.ret (tD V H f s)) F) :=
    retM_ok (bind_ok (a := [D.int V, .int H, pN f, pN s]) (bind_ok (a := D.int V) (ρ1 := σ) rfl (bind_ok (a := [D.int H, pN f, pN s]) (ρ1 := F) (bind_ok (a := D.int H) (ρ1 := σ) rfl (bind_ok (a := [pN f, pN s]) (ρ1 := F) (bind_ok (a := pN f) (ρ1 := σ) rfl (bind_ok (a := [pN s]) (ρ1 := F) (bind_ok l4 rfl) rfl)) rfl)) rfl)) rfl)
  have fin : g__law_town (S (rowD ns i sd c) .emp .emp .emp .emp) = some (.ok (.ret (tD V H f s)) F) := seq_nx t1 (seq_nx t2 (seq_nx t3 (seq_nx t4 (seq_nx t5 t6))))
  show (match g__law_town (S (rowD ns i sd c) .emp .emp .emp .emp) with
    | some (.ok (.ret d) (.own true (.lst rs') :: _)) => some (Except.ok (d, rs'))
    | _ => none) = _
  rw [fin]
end K04

namespace K04
open Dn
theorem runW_inv {α : Type} {cond : α → Bool} {next : α → α} (I : α → Prop) (H : ∀ a, I a → cond a = true → I (next a)) : ∀ (n : Nat) (a : α), I a → I (runW cond next n a)
  | 0, a, h => h
  | n + 1, a, h => by
    unfold runW
    by_cases c : cond a = true
    · rw [if_pos c]
      exact runW_inv I H n _ (H a h c)
    · rw [if_neg c]
      exact h
section
variable {w h : Nat} {f s : Pt2}
def Led (w h : Nat) (f s x : Pt2) : Prop := ∃ a b, atP w h s (atP w h f (0, 0) a) b = x
theorem Led.first {x : Pt2} (l : Led w h f s x) : Led w h f s (ledP w h x f) := by
  obtain ⟨a, b, rfl⟩ := l
  exact ⟨a + 1, b, by rw [at_one, at_comm (x := f) (y := s), at_add]⟩
theorem Led.second {x : Pt2} (l : Led w h f s x) : Led w h f s (ledP w h x s) := by
  obtain ⟨a, b, rfl⟩ := l
  exact ⟨a, b + 1, by rw [at_one, at_add]⟩
theorem visit_led {a : Ws} {q : Pt2} (l : ∀ x ∈ a.1, Led w h f s x) (hq : Led w h f s q) : ∀ x ∈ (visit a q).1, Led w h f s x := by
  unfold visit
  split
  · exact l
  · intro x hx
    rcases List.mem_append.mp hx with hx | hx
    · exact l x hx
    · rw [List.mem_singleton.mp hx]
      exact hq
theorem visit_sub {a : Ws} {q x : Pt2} (hx : x ∈ a.1) : x ∈ (visit a q).1 := by
  unfold visit
  split
  · exact hx
  · exact List.mem_append_left _ hx
/-- a whole town's crossings are all led to -/
theorem gen_of_whole (t : OkT w h f s) (e : (wholeP w h f s).1.length = w * h) : Gen w h f s := by
  have hw : 0 < w := t.w1
  have hh : 0 < h := t.h1
  have I := runW_inv (cond := condW) (next := nextW w h f s) (fun a => OkW w h a ∧ ∀ x ∈ a.1, Led w h f s x) (fun a ⟨o, l⟩ c => by
    obtain ⟨F, L⟩ := a
    obtain ⟨L', p, rfl⟩ : ∃ l p, L = l ++ [p] := ⟨L.dropLast, L.getLast (by rintro rfl; cases c), (List.dropLast_concat_getLast _).symm⟩
    obtain ⟨o1, hp, _⟩ := o.pop
    have lp : Led w h f s p := l p (o.sub p (List.mem_append_right _ (List.mem_singleton.mpr rfl)))
    rw [next_snoc]
    refine ⟨(o1.visit (led_lt hw hh)).visit (led_lt hw hh), ?_⟩
    exact visit_led (visit_led (a := (F, L')) l lp.first) lp.second) 5000 ([(0, 0)], [(0, 0)]) ⟨start_ok t, fun x hx => by
      rw [List.mem_singleton.mp hx]
      exact ⟨0, 0, by rw [at_zero (p := (0, 0)) hw hh, at_zero (p := (0, 0)) hw hh]⟩⟩
  have I : OkW w h (wholeP w h f s) ∧ ∀ x ∈ (wholeP w h f s).1, Led w h f s x := I
  intro x x1 x2
  refine I.2 x ?_
  have pm : (placesP w h).Perm (wholeP w h f s).1 := perm_of_cover I.1.nd (fun y hy => mem_places.mpr (I.1.red y hy)) (by rw [len_places, e]; exact Nat.le_refl _)
  exact pm.mem_iff.mp (mem_places.mpr ⟨x1, x2⟩)
end
end K04

namespace K04
open Dn
theorem call3_ok {α : Type} {den : Den α} {fa fb fc : M D} {ρ ρ1 ρ2 ρ3 : Sto} {a b c : D} {r : α} (h1 : fa ρ = some (.ok a ρ1)) (h2 : fb ρ1 = some (.ok b ρ2)) (h3 : fc ρ2 = some (.ok c ρ3)) (h4 : den [a, b, c] = some (.ok r)) : callM 3 den (consM fa (consM fb (consM fc (M.pure [])))) ρ = some (.ok r ρ3) := by
  unfold callM consM M.bind M.pure M.res nArgs
  simp only [h1, h2, h3, List.length_cons, List.length_nil, if_true, Nat.zero_add, h4]
theorem lst2_ok {fa fb : M D} {ρ ρ1 ρ2 : Sto} {a b : D} (h1 : fa ρ = some (.ok a ρ1)) (h2 : fb ρ1 = some (.ok b ρ2)) : (M.map (lstM (consM fa (consM fb (M.pure [])))) Co.d) ρ = some (.ok (.lst [a, b]) ρ2) := by
  refine map_ok (a := Co.lst [a, b]) (bind_ok (a := [a, b]) (bind_ok h1 (bind_ok (bind_ok h2 rfl) rfl)) rfl)
theorem len_ok {f : M D} {ρ ρ1 : Sto} {d : D} {n : Int} (h1 : f ρ = some (.ok d ρ1)) (h2 : lenD [d] = some (.int n)) : (M.bind (oneM f) fun ds => M.lift (lenD ds)) ρ = some (.ok (.int n) ρ1) := by
  refine bind_ok (a := [d]) (map_ok h1) ?_
  simp only [M.lift, h2, Option.map_some]
theorem not_ok {t : M Bool} {ρ ρ1 : Sto} {b : Bool} (h : t ρ = some (.ok b ρ1)) : Dn.notM t ρ = some (.ok (!b) ρ1) := map_ok h
theorem testB_ok {f : M D} {ρ ρ1 : Sto} {b : Bool} (h : f ρ = some (.ok (.bl b) ρ1)) : testB f ρ = some (.ok b ρ1) := bind_ok h rfl
theorem mod_nat {a b : Nat} (h : 0 < b) : modD (.int (a : Int)) (.int (b : Int)) = some (.int ((a % b : Nat) : Int)) := by
  rw [mod_int (by omega), fmod_nat]
section
variable {w h : Nat} {f s : Pt2} (t : OkT w h f s)
include t
theorem multiple_eval {x : Pt2} {m : Nat} (hm : m < 1000) : d_multiple [tD w h f s, pN x, .int m] = some (.ok (pN (atP w h x (0, 0) m))) := by
  have m1 := mul_eval (a := m) (b := x.1) hm
  have m2 := mul_eval (a := m) (b := x.2) hm
  have q1 := mod_nat (a := m * x.1) t.w1
  have q2 := mod_nat (a := m * x.2) t.h1
  let ρ : Sto := [.val (tD w h f s), .val (pN x), .val (.int m)]
  refine runD_ret (retM_ok (ρ1 := ρ) (bind_ok (a := [D.int ((m * x.1 % w : Nat) : Int), D.int ((m * x.2 % h : Nat) : Int)]) (ρ1 := ρ) (bind_ok (a := D.int ((m * x.1 % w : Nat) : Int)) (ρ1 := ρ) (bin2_ok (a := D.int ((m * x.1 : Nat) : Int)) (b := D.int w) (ρ1 := ρ) (bin2_ok (a := D.int m) (b := D.int x.1) (ρ1 := ρ) rfl rfl m1) rfl q1) (bind_ok (a := [D.int ((m * x.2 % h : Nat) : Int)]) (ρ1 := ρ) (bind_ok (a := D.int ((m * x.2 % h : Nat) : Int)) (ρ1 := ρ) (bin2_ok (a := D.int ((m * x.2 : Nat) : Int)) (b := D.int h) (ρ1 := ρ) (bin2_ok (a := D.int m) (b := D.int x.2) (ρ1 := ρ) rfl rfl m2) rfl q2) rfl) rfl)) ?_))
  unfold atP
  rw [Nat.zero_add, Nat.zero_add]
  rfl
theorem cnt_le : cntP w h (gapP w h f s) ≤ 144 := by
  rw [cnt_starts t.w1 t.h1]
  exact starts_le t
theorem moved_lt {m : Nat} : (movedP w h f s m).1 < w ∧ (movedP w h f s m).2 < h := at_lt t.w1 t.h1
/-- how many rings so many chosen rows give -/
def madeP (w h : Nat) (f s : Pt2) (m : Nat) : Nat := ordP w h (gapP w h f s) / ordP w h (movedP w h f s m)
theorem rings_made_eval {m : Nat} (hm : m ≤ cntP w h (gapP w h f s)) : d_rings_made [tD w h f s, .int m] = some (.ok (.int (madeP w h f s m))) := by
  have hw : 0 < w := t.w1
  have hh : 0 < h := t.h1
  have c60 := cnt_le t
  have hd := gap_lt t
  have ml := moved_lt t (m := m)
  have sub : subD (.int (cntP w h (gapP w h f s))) (.int m) = some (.int ((cntP w h (gapP w h f s) - m : Nat) : Int)) := by
    rw [sub_int]
    congr 2
    omega
  have cl : d_count_lots [tD w h f s] = some (.ok (.int (cntP w h (gapP w h f s)))) := by
    rw [cnt_starts hw hh]
    exact count_lots_eval t
  have mv : ledP w h (atP w h f (0, 0) m) (atP w h s (0, 0) (cntP w h (gapP w h f s) - m)) = movedP w h f s m := by
    unfold movedP ledP
    unfold atP
    simp only [Nat.zero_add, Nat.add_mod_mod, Nat.mod_add_mod]
  have op := ord_pos (d := movedP w h f s m) hw hh
  have ol : ordP w h (movedP w h f s m) ≤ 144 := Nat.le_trans (ord_le hw hh) t.most
  have dv := div_eval (a := ordP w h (gapP w h f s)) op (by omega)
  let ρ : Sto := [.val (tD w h f s), .val (.int m), .emp]
  let ρ2 : Sto := [.val (tD w h f s), .val (.int m), .val (pN (movedP w h f s m))]
  refine runD_ret (seq_nx (ρ1 := ρ2) (Eq.trans (set_ok (ρ1 := ρ) (d := pN (movedP w h f s m)) (call3_ok (ρ1 := ρ) (ρ2 := ρ) (b := pN (atP w h f (0, 0) m)) (c := pN (atP w h s (0, 0) (cntP w h (gapP w h f s) - m))) (rd_val (i := 0) rfl) (call3_ok (ρ1 := ρ) (ρ2 := ρ) (b := pN f) (c := D.int m) (rd_val (i := 0) rfl) rfl (rd_val (i := 1) rfl) (multiple_eval t (by omega))) (call3_ok (ρ1 := ρ) (ρ2 := ρ) (b := pN s) (c := D.int ((cntP w h (gapP w h f s) - m : Nat) : Int)) (rd_val (i := 0) rfl) rfl (bin2_ok (call1_ok (rd_val (i := 0) rfl) cl) (rd_val (i := 1) rfl) sub) (multiple_eval t (by omega))) ?_)) rfl) (retM_ok (ρ1 := ρ2) (bin2_ok (ρ1 := ρ2) (call2_ok (rd_val (i := 0) rfl) (call1_ok (rd_val (i := 0) rfl) (sd_eval t.s1 t.s2)) (order_eval t hd.1 hd.2)) (call2_ok (rd_val (i := 0) rfl) (rd_val (i := 2) rfl) (order_eval t ml.1 ml.2)) dv)))
  rw [← mv]
  exact added_eval hw hh
/-- the numbers of rows that give one ring -/
def numsP (w h : Nat) (f s : Pt2) : List Nat := if (wholeP w h f s).1.length = w * h then (List.range (cntP w h (gapP w h f s) + 1)).filter (fun m => decide (madeP w h f s m = 1)) else []
theorem numbers_eval : d_numbers [tD w h f s] = some (.ok (.tup ((numsP w h f s).map fun (m : Nat) => D.int m))) := by
  have hw : 0 < w := t.w1
  have hh : 0 < h := t.h1
  have c60 := cnt_le t
  have cl : d_count_lots [tD w h f s] = some (.ok (.int (cntP w h (gapP w h f s)))) := by
    rw [cnt_starts hw hh]
    exact count_lots_eval t
  let ρ : Sto := [.val (tD w h f s), .emp]
  have wt : testB (callM 1 d_is_whole (consM (rd 0) (M.pure []))) ρ = some (.ok (decide ((wholeP w h f s).1.length = w * h)) ρ) := testB_ok (call1_ok (rd_val (i := 0) rfl) (is_whole_eval t))
  unfold numsP
  by_cases c : (wholeP w h f s).1.length = w * h
  · rw [if_pos c]
    rw [decide_eq_true c] at wt
    have lc := lc_runs (vs := [1]) (t := .nm 1) (tt := c_numbers_0) (f := e_numbers_0) (ρ := ρ) (fun (i : Nat) => D.int i) (fun m => decide (madeP w h f s m = 1)) (fun (i : Nat) => D.int i) (List.range (cntP w h (gapP w h f s) + 1)) [] (fun m hm => by
      have hm' := List.mem_range.mp hm
      refine ⟨[.val (tD w h f s), .val (.int m)], [.val (tD w h f s), .val (.int m)], rfl, ?_, fun _ => rfl, fun _ => ⟨_, rfl, rfl⟩⟩
      refine bin2_ok (call2_ok (rd_val (i := 0) rfl) (rd_val (i := 1) rfl) (rings_made_eval t (by omega))) (b := D.int 1) rfl ?_
      have z : ∀ n : Nat, decide ((n : Int) = 1) = decide (n = 1) := fun n => decide_eq_decide.mpr (by omega)
      rw [eq_int, z]) (by rw [List.length_range, List.length_nil]; omega)
    rw [List.nil_append] at lc
    refine runD_ret (seq_nx (drop_ok (call1_ok (rd_val (i := 0) rfl) (check_eval t))) (seq_nx (if_ff (ρ1 := ρ) (not_ok wt) rfl) (retM_ok (ρ1 := ρ) (tup1_ok (map_ok (lc_ok (ds := (List.range (cntP w h (gapP w h f s) + 1)).map fun (i : Nat) => D.int i) (ρ1 := ρ) ?_ lc)) rfl))))
    have rg := rng_eval' (n := cntP w h (gapP w h f s) + 1) (by omega)
    have ad : addD (.int (cntP w h (gapP w h f s))) (.int 1) = some (.int ((cntP w h (gapP w h f s) + 1 : Nat) : Int)) := by
      rw [add_int]
      rfl
    refine bind_ok (a := [D.int ((cntP w h (gapP w h f s) + 1 : Nat) : Int)]) (one_ok (bin2_ok (call1_ok (rd_val (i := 0) rfl) cl) rfl ad)) ?_
    simp only [M.lift, rg, Option.map_some]
  · rw [if_neg c]
    rw [decide_eq_false c] at wt
    exact runD_ret (seq_nx (drop_ok (call1_ok (rd_val (i := 0) rfl) (check_eval t))) (seq_ret (if_tt (ρ1 := ρ) (not_ok wt) (retM_ok (ρ1 := ρ) rfl))))
end
end K04

namespace K04
open Dn
def chooseS (n : Nat) (a : Int) (i : Nat) : Int := (a * ((n : Int) - i)).fdiv ((i : Int) + 1)
def chooseF (n m : Nat) : Int := (List.range m).foldl (chooseS n) 1
theorem choose_eval {n m : Nat} (hn : n ≤ 100) (hm : m ≤ 100) : d__law_choose [.int n, .int m] = some (.ok (.int (chooseF n m))) := by
  let Inv : List Nat → Sto → Prop := fun pre ρ => ∃ x3, ρ = [.val (.int n), .val (.int m), .val (.int (pre.foldl (chooseS n) 1)), x3]
  obtain ⟨ρ', e, x3, I⟩ := for_pre (t := .nm 3) (g := l__law_choose_0) (fun (i : Nat) => D.int i) Inv (List.range m) (fun pre i post ρ hs ⟨x3, I⟩ => by
    subst I
    have hi : i < m := List.mem_range.mp (by rw [hs]; exact List.mem_append_right _ (List.mem_cons_self ..))
    let a := pre.foldl (chooseS n) 1
    let ρ1 : Sto := [.val (.int n), .val (.int m), .val (.int a), .val (.int i)]
    have mu : mulD (.int a) (.int ((n : Int) - i)) = some (.int (a * ((n : Int) - i))) := by
      unfold mulD gI
      have h2 : decide ((-(2 ^ 64) < a ∧ a < 2 ^ 64) ∨ (-(2 ^ 64) < (n : Int) - i ∧ (n : Int) - i < 2 ^ 64)) = true := decide_eq_true (Or.inr (by omega))
      simp only [h2, if_true]
    refine ⟨ρ1, _, rfl, set_ok (i := 2) (ρ1 := ρ1) (d := D.int (chooseS n a i)) (bin2_ok (ρ1 := ρ1) (bin2_ok (ρ1 := ρ1) (rd_val (i := 2) rfl) (bin2_ok (ρ1 := ρ1) (rd_val (i := 0) rfl) (rd_val (i := 3) rfl) (sub_int _ _)) mu) (bin2_ok (ρ1 := ρ1) (rd_val (i := 3) rfl) rfl (add_int _ _)) (div_int (by omega) (by omega))), .val (.int i), ?_⟩
    rw [List.foldl_append]
    rfl) (List.range m) [] [.val (.int n), .val (.int m), .val (.int 1), .emp] rfl ⟨.emp, rfl⟩
  subst I
  have rg := rng_eval (n := m) hm
  refine runD_ret (seq_nx (ρ1 := [.val (.int n), .val (.int m), .val (.int 1), .emp]) rfl (seq_nx (for_ok (ds := (List.range m).map fun (i : Nat) => D.int i) (ρ1 := [.val (.int n), .val (.int m), .val (.int 1), .emp]) ?_ e) (retM_ok rfl)))
  refine bind_ok (a := [D.int m]) rfl ?_
  simp only [M.lift, rg, Option.map_some]
def combAll (N : Nat) : Bool := (List.range N).all fun n => (List.range (n + 1)).all fun m => decide (chooseF n m = PySem.W.mcComb (n : Int) (m : Int))
theorem comb_all : combAll 61 = true := by decide +kernel
theorem choose_comb {n m : Nat} (hn : n ≤ 60) (hm : m ≤ n) : chooseF n m = PySem.W.mcComb (n : Int) (m : Int) := by
  have h := comb_all
  unfold combAll at h
  rw [List.all_eq_true] at h
  have h1 := h n (List.mem_range.mpr (by omega))
  rw [List.all_eq_true] at h1
  exact of_decide_eq_true (h1 m (List.mem_range.mpr (by omega)))
theorem nums_le {w h : Nat} {f s : Pt2} {m : Nat} (hm : m ∈ numsP w h f s) : m ≤ cntP w h (gapP w h f s) := by
  unfold numsP at hm
  split at hm
  · have := List.mem_range.mp (List.mem_filter.mp hm).1
    omega
  · cases hm
theorem ints_map : ∀ l : List Nat, ∀ g : Nat → Int, intsOf (l.map fun m => D.int (g m)) = some (l.map g)
  | [], _ => rfl
  | m :: l, g => by
    rw [List.map_cons]
    show (intsOf (l.map fun m => D.int (g m))).map _ = _
    rw [ints_map l g]
    rfl
section
variable {w h : Nat} {f s : Pt2} (t : OkT w h f s)
include t
def roundsP (w h : Nat) (f s : Pt2) : Int := ((numsP w h f s).map fun (m : Nat) => PySem.W.mcComb (cntP w h (gapP w h f s) : Int) (m : Int)).sum
theorem count_rounds_eval : d_count_rounds [tD w h f s] = some (.ok (.int (roundsP w h f s))) := by
  have hw : 0 < w := t.w1
  have hh : 0 < h := t.h1
  have c60 := cnt_le t
  have cl : d_count_lots [tD w h f s] = some (.ok (.int (cntP w h (gapP w h f s)))) := by
    rw [cnt_starts hw hh]
    exact count_lots_eval t
  have nl : (numsP w h f s).length ≤ 145 := by
    unfold numsP
    split
    · refine Nat.le_trans (List.length_filter_le _ _) ?_
      rw [List.length_range]
      omega
    · exact Nat.zero_le _
  let n := cntP w h (gapP w h f s)
  let ρ : Sto := [.val (tD w h f s), .val (.tup ((numsP w h f s).map fun (m : Nat) => D.int m)), .val (.int n), .emp]
  have lc := lc_runs (vs := [3]) (t := .nm 3) (tt := M.pure true) (f := e_count_rounds_0) (ρ := ρ) (fun (i : Nat) => D.int i) (fun _ => true) (fun m => D.int (PySem.W.mcComb (n : Int) (m : Int))) (numsP w h f s) [] (fun m hm => by
    have hm' := nums_le hm
    refine ⟨ρ.set 3 (.val (.int m)), ρ.set 3 (.val (.int m)), rfl, rfl, (fun h => by cases h), fun _ => ⟨ρ.set 3 (.val (.int m)), ?_, rfl⟩⟩
    refine bind_ok (a := [D.int n, D.int m]) rfl ?_
    have cb : int2 combI [D.int n, D.int m] = some (D.int (PySem.W.mcComb (n : Int) (m : Int))) := by
      show (combI (n : Int) (m : Int)).map D.int = _
      unfold combI
      rw [if_pos ⟨by omega, by omega, by omega⟩]
      rfl
    simp only [M.lift, cb, Option.map_some]) (by rw [List.length_nil]; omega)
  rw [List.filter_eq_self.mpr (fun _ _ => rfl), List.nil_append] at lc
  refine runD_ret (seq_nx (ρ1 := [.val (tD w h f s), .val (.tup ((numsP w h f s).map fun (m : Nat) => D.int m)), .emp, .emp]) (Eq.trans (set_ok (ρ1 := [.val (tD w h f s), .emp, .emp, .emp]) (call1_ok (rd_val (i := 0) rfl) (numbers_eval t))) rfl) (seq_nx (ρ1 := ρ) (Eq.trans (set_ok (ρ1 := [.val (tD w h f s), .val (.tup ((numsP w h f s).map fun (m : Nat) => D.int m)), .emp, .emp]) (call1_ok (rd_val (i := 0) rfl) cl)) rfl) (retM_ok (ρ1 := ρ) (bind_ok (a := [D.lst ((numsP w h f s).map fun (m : Nat) => D.int (PySem.W.mcComb (n : Int) (m : Int)))]) (map_ok (map_ok (lc_ok (ds := (numsP w h f s).map fun (i : Nat) => D.int i) (ρ1 := ρ) rfl lc))) ?_))))
  have si : onInts (fun ns => some (D.int ns.sum)) [D.lst ((numsP w h f s).map fun (m : Nat) => D.int (PySem.W.mcComb (n : Int) (m : Int)))] = some (D.int (roundsP w h f s)) := by
    show (intsOf _).bind _ = _
    rw [ints_map]
    rfl
  simp only [M.lift, si, Option.map_some]
  rfl
end
end K04

namespace K05
open K04 Dn
theorem orF {f g : M Bool} {ρ ρ1 : Sto} {r : Option (Res Bool)} (h : f ρ = some (.ok false ρ1)) (h2 : g ρ1 = r) : Dn.orM f g ρ = r := bind_ok h h2
theorem orT {f g : M Bool} {ρ ρ1 : Sto} (h : f ρ = some (.ok true ρ1)) : Dn.orM f g ρ = some (.ok true ρ1) := bind_ok h rfl
theorem andF {f g : M Bool} {ρ ρ1 : Sto} (h : f ρ = some (.ok false ρ1)) : Dn.andM f g ρ = some (.ok false ρ1) := bind_ok h rfl
theorem andT {f g : M Bool} {ρ ρ1 : Sto} {r : Option (Res Bool)} (h : f ρ = some (.ok true ρ1)) (h2 : g ρ1 = r) : Dn.andM f g ρ = r := bind_ok h h2

theorem cons_ok {fa : M D} {fs : M (List D)} {ρ ρ1 ρ2 : Sto} {a : D} {ds : List D} (h1 : fa ρ = some (.ok a ρ1)) (h2 : fs ρ1 = some (.ok ds ρ2)) : consM fa fs ρ = some (.ok (a :: ds) ρ2) := bind_ok h1 (bind_ok h2 rfl)
theorem par2_ok {i j : Nat} {P Q : Pt} {ρ ρ1 ρ2 : Sto} {x y : VC} (h1 : P.run ρ = some (.ok x ρ1)) (h2 : Q.run ρ1 = some (.ok y ρ2)) : par2 i j P Q ρ = some (.ok .nx ((ρ2.set i x.slot).set j y.slot)) := bind_ok h1 (bind_ok h2 rfl)
theorem ite_val {c : M Bool} {fa fb : M D} {ρ ρ1 : Sto} {b : Bool} (h : c ρ = some (.ok b ρ1)) : iteM c fa fb ρ = (if b then fa else fb) ρ1 := by
  unfold iteM M.bind
  rw [h]

section
variable {ns : List Int} {i sd c : Int}
/-- one of any list -/
theorem pick_any {l : List D} (hi : 0 ≤ i) (h0 : 0 ≤ sd) (h1 : sd < 2147483647) (hl : l ≠ []) (hm2 : l.length < 100000) :
    ∃ (r : Nat) (i' sd' c' : Int) (hr : r < l.length), d__law_pick (rowD ns i sd c) [.lst l] = some (.ok (l[r], rowD ns i' sd' c')) ∧ 0 ≤ i' ∧ 0 ≤ sd' ∧ sd' < 2147483647 := by
  have hpos := List.length_pos_iff.mpr hl
  obtain ⟨r, i', sd', c', e, r0, r1, a1, a2, a3⟩ := taken_eval (ns := ns) (i := i) (sd := sd) (c := c) (many := (l.length : Int)) hi h0 h1 (by omega) (by omega)
  have hr : r.toNat < l.length := by omega
  refine ⟨r.toNat, i', sd', c', hr, ?_, a1, a2, a3⟩
  have z : ixD (.lst l) (.int r) = some l[r.toNat] := by
    show L2.atI l r = _
    unfold L2.atI L2.ixN
    rw [if_pos r0, if_pos (by omega)]
    simp [hr]
  have ld : lendM 0 2 d__law_taken (consM (M.bind (oneM (pk 1)) fun ds => M.lift (lenD ds)) (M.pure [])) [.own true (.lst (rowD ns i sd c)), .val (.lst l)] = some (.ok (.int r) [.own true (.lst (rowD ns i' sd' c')), .val (.lst l)]) :=
    Eq.trans (lendM_ok (i := 0) (ρ1 := [.own true (.lst (rowD ns i sd c)), .val (.lst l)]) rfl (one_ok (len_ok (f := pk 1) (d := D.lst l) rfl (len_lst l))) rfl rfl e) rfl
  have fin : g__law_pick [.own true (.lst (rowD ns i sd c)), .val (.lst l)] = some (.ok (.ret l[r.toNat]) [.own true (.lst (rowD ns i' sd' c')), .val (.lst l)]) := by
    refine retM_ok (bind_ok (a := D.lst l) (ρ1 := [.own true (.lst (rowD ns i sd c)), .val (.lst l)]) rfl (bind_ok ld ?_))
    simp only [ixHere, List.getElem?_cons_succ, List.getElem?_cons_zero, z, Option.map_some]
  show (match g__law_pick [.own true (.lst (rowD ns i sd c)), .val (.lst l)] with
    | some (.ok (.ret d) (.own true (.lst rs') :: _)) => some (Except.ok (d, rs'))
    | _ => none) = _
  rw [fin]
end
theorem runW_ends {α : Type} {cond : α → Bool} {next : α → α} (I : α → Prop) (μ : α → Nat) (H : ∀ a, I a → cond a = true → I (next a) ∧ μ (next a) < μ a) : ∀ (n : Nat) (a : α), I a → μ a < n → cond (runW cond next n a) = false
  | 0, _, _, h => absurd h (Nat.not_lt_zero _)
  | n + 1, a, i, h => by
    unfold runW
    cases c : cond a with
    | false => rw [if_neg (by decide)]; exact c
    | true =>
      rw [if_pos rfl]
      obtain ⟨i2, lt⟩ := H a i c
      exact runW_ends I μ H n (next a) i2 (by omega)
section
variable {w h : Nat} {f s : Pt2}
theorem visit_has {a : Ws} {q : Pt2} : q ∈ (visit a q).1 := by
  unfold visit
  split
  · assumption
  · exact List.mem_append_right _ (List.mem_singleton.mpr rfl)
theorem visit_stack {a : Ws} {q x : Pt2} (hx : x ∈ a.2) : x ∈ (visit a q).2 := by
  unfold visit
  split
  · exact hx
  · exact List.mem_append_left _ hx
theorem visit_old {a : Ws} {q x : Pt2} (hx : x ∈ (visit a q).1) (hn : x ∉ (visit a q).2) : x ∈ a.1 := by
  unfold visit at hx hn
  split at hx
  · exact hx
  · rename_i c
    rw [if_neg c] at hn
    rcases List.mem_append.mp hx with h | h
    · exact h
    · exact absurd (List.mem_append_right _ h) hn
/-- what is done is closed -/
def Closed (w h : Nat) (f s : Pt2) (a : Ws) : Prop := (0, 0) ∈ a.1 ∧ ∀ p ∈ a.1, p ∉ a.2 → ledP w h p f ∈ a.1 ∧ ledP w h p s ∈ a.1
theorem whole_closed (t : OkT w h f s) : OkW w h (wholeP w h f s) ∧ (0, 0) ∈ (wholeP w h f s).1 ∧ ∀ p ∈ (wholeP w h f s).1, ledP w h p f ∈ (wholeP w h f s).1 ∧ ledP w h p s ∈ (wholeP w h f s).1 := by
  have hw : 0 < w := t.w1
  have hh : 0 < h := t.h1
  have step : ∀ a, (OkW w h a ∧ Closed w h f s a) → condW a = true → (OkW w h (nextW w h f s a) ∧ Closed w h f s (nextW w h f s a)) ∧ meas (w * h) (nextW w h f s a) < meas (w * h) a := fun a ⟨o, z, cl⟩ c => by
    obtain ⟨F, L⟩ := a
    obtain ⟨L', p, rfl⟩ : ∃ l p, L = l ++ [p] := ⟨L.dropLast, L.getLast (by rintro rfl; cases c), (List.dropLast_concat_getLast _).symm⟩
    obtain ⟨o1, hp, m⟩ := o.pop
    have q1 := led_lt (p := p) (q := f) hw hh
    have q2 := led_lt (p := p) (q := s) hw hh
    have o2 := o1.visit q1
    have m2 := meas_visit o1 q1
    have m3 := meas_visit o2 q2
    rw [next_snoc]
    refine ⟨⟨o2.visit q2, visit_sub (visit_sub (a := (F, L')) z), fun x hx hn => ?_⟩, by omega⟩
    have x1 := visit_old hx hn
    have n1 : x ∉ (visit (F, L') (ledP w h p f)).2 := fun e => hn (visit_stack e)
    have x0 : x ∈ F := visit_old x1 n1
    have n0 : x ∉ L' := fun e => n1 (visit_stack (a := (F, L')) e)
    by_cases e : x = p
    · subst e
      exact ⟨visit_sub visit_has, visit_has⟩
    · obtain ⟨c1, c2⟩ := cl x x0 (fun m => by
        rcases List.mem_append.mp m with m | m
        · exact n0 m
        · exact e (List.mem_singleton.mp m))
      exact ⟨visit_sub (visit_sub (a := (F, L')) c1), visit_sub (visit_sub (a := (F, L')) c2)⟩
  have i0 : OkW w h ([(0, 0)], [(0, 0)]) ∧ Closed w h f s ([(0, 0)], [(0, 0)]) := ⟨start_ok t, List.mem_singleton.mpr rfl, fun p hp hn => absurd hp hn⟩
  have inv := runW_inv (cond := condW) (next := nextW w h f s) (fun a => OkW w h a ∧ Closed w h f s a) (fun a i c => (step a i c).1) 5000 _ i0
  have fin := runW_ends (cond := condW) (next := nextW w h f s) (fun a => OkW w h a ∧ Closed w h f s a) (meas (w * h)) step 5000 _ i0 (by
    have := t.most
    unfold meas
    simp only [List.length_singleton]
    omega)
  obtain ⟨o, z, cl⟩ : OkW w h (wholeP w h f s) ∧ Closed w h f s (wholeP w h f s) := inv
  have e : (wholeP w h f s).2 = [] := by
    have fin : condW (wholeP w h f s) = false := fin
    unfold condW at fin
    simpa using fin
  exact ⟨o, z, fun p hp => cl p hp (by rw [e]; simp)⟩

theorem whole_iff (t : OkT w h f s) : (wholeP w h f s).1.length = w * h ↔ Gen w h f s := by
  refine ⟨gen_of_whole t, fun g => ?_⟩
  obtain ⟨o, z, cl⟩ := whole_closed t
  have h1 : ∀ a, atP w h f (0, 0) a ∈ (wholeP w h f s).1 := fun a => by
    induction a with
    | zero => rw [at_zero t.w1 t.h1]; exact z
    | succ a ih => rw [← led_at]; exact (cl _ ih).1
  have h2 : ∀ b p, p ∈ (wholeP w h f s).1 → atP w h s p b ∈ (wholeP w h f s).1 := fun b p hp => by
    induction b with
    | zero => rw [at_zero (o.red p hp).1 (o.red p hp).2]; exact hp
    | succ b ih => rw [← led_at]; exact (cl _ ih).2
  refine Nat.le_antisymm o.len ?_
  rw [← len_places]
  refine length_le_of_mem (places_nodup w h) fun x hx => ?_
  obtain ⟨x1, x2⟩ := mem_places.mp hx
  obtain ⟨a, b, rfl⟩ := g x x1 x2
  exact h2 b _ (h1 a)
end
def gridAll (N : Nat) : Bool := (List.range N).all fun w => (List.range N).all fun h => decide (w = 0) || decide (h = 0) || decide (w * h < 2) ||
  (decide (cntP w h (gapP w h (1 % w, 0) (0, 1 % h)) = Nat.gcd w h) && (List.range (Nat.gcd w h + 1)).all fun m => decide (madeP w h (1 % w, 0) (0, 1 % h) m = 1) == (decide (Nat.gcd m w = 1) && decide (Nat.gcd (Nat.gcd w h - m) h = 1)))
theorem grid_all : gridAll 13 = true := by decide +kernel

def shOk (w h e : Nat) : Bool := decide (Nat.gcd e w = 1) && decide (Nat.gcd (Nat.gcd w h - e) h = 1)
def sharesP (w h : Nat) : List Nat := (List.range (Nat.gcd w h + 1)).filter (shOk w h)
def gF (w : Nat) : Pt2 := (1 % w, 0)
def gS (h : Nat) : Pt2 := (0, 1 % h)
section
variable {w h : Nat} {f s : Pt2}
theorem grid_ok (t : OkT w h f s) : OkT w h (gF w) (gS h) := ⟨t.w1, t.w12, t.h1, t.h12, t.big, t.most, Nat.mod_lt _ t.w1, t.h1, t.w1, Nat.mod_lt _ t.h1, fun e => by
  have e1 : 1 % w = 0 := congrArg Prod.fst e
  have e2 : 0 = 1 % h := congrArg Prod.snd e
  have a : w = 1 := by
    have := t.w1
    by_cases c : w = 1
    · exact c
    · rw [Nat.mod_eq_of_lt (by omega)] at e1; omega
  have b : h = 1 := by
    have := t.h1
    by_cases c : h = 1
    · exact c
    · rw [Nat.mod_eq_of_lt (by omega)] at e2; omega
  have := t.big
  rw [a, b] at this
  omega⟩
theorem one_mul_mod {w x : Nat} (hx : x < w) : (0 + x * (1 % w)) % w = x := by
  rw [Nat.zero_add]
  by_cases c : w = 1
  · subst c; omega
  · rw [Nat.mod_eq_of_lt (a := 1) (by omega), Nat.mul_one, Nat.mod_eq_of_lt hx]
theorem grid_gen (t : OkT w h f s) : Gen w h (gF w) (gS h) := fun x x1 x2 => ⟨x.1, x.2, by
  refine Prod.ext ?_ ?_
  · show ((0 + x.1 * (1 % w)) % w + x.2 * 0) % w = x.1
    rw [one_mul_mod x1, Nat.mul_zero, Nat.add_zero, Nat.mod_eq_of_lt x1]
  · show ((0 + x.1 * 0) % h + x.2 * (1 % h)) % h = x.2
    rw [Nat.mul_zero, Nat.add_zero, Nat.zero_mod]
    exact one_mul_mod x2⟩
theorem grid_nums (t : OkT w h f s) : numsP w h (gF w) (gS h) = sharesP w h := by
  have g := grid_all
  have h1 := List.all_eq_true.mp (List.all_eq_true.mp g w (List.mem_range.mpr (by have := t.w12; omega))) h (List.mem_range.mpr (by have := t.h12; omega))
  have n1 : ¬ w = 0 := by have := t.w1; omega
  have n2 : ¬ h = 0 := by have := t.h1; omega
  have n3 : ¬ w * h < 2 := by have := t.big; omega
  rw [decide_eq_false n1, decide_eq_false n2, decide_eq_false n3, Bool.false_or, Bool.false_or, Bool.false_or, Bool.and_eq_true, decide_eq_true_eq] at h1
  have hw := (whole_iff (grid_ok t)).mpr (grid_gen t)
  unfold numsP sharesP
  rw [if_pos hw]
  have e1 : cntP w h (gapP w h (gF w) (gS h)) = Nat.gcd w h := h1.1
  rw [e1]
  refine List.filter_congr fun m hm => ?_
  have := List.all_eq_true.mp h1.2 m hm
  exact eq_of_beq this
theorem check_sides_eval (t : OkT w h f s) : d_check_sides [.int w, .int h] = some (.ok .non) :=
  runD_nx (if_ff (ρ1 := [.val (.int w), .val (.int h)]) (not_ok (b := true) (testB_ok (call2_ok (ρ1 := [.val (.int w), .val (.int h)]) (ρ2 := [.val (.int w), .val (.int h)]) rfl rfl (sides_eval t)))) rfl)
theorem grid_eval (t : OkT w h f s) : d_grid [.int w, .int h] = some (.ok (tD w h (gF w) (gS h))) := by
  let ρ : Sto := [.val (.int w), .val (.int h)]
  have m1 : bin2 modD (M.pure (.int 1)) (rd 0) ρ = some (.ok (.int ((1 % w : Nat) : Int)) ρ) := bin2_ok (a := .int ((1 : Nat) : Int)) (b := .int (w : Nat)) (ρ1 := ρ) rfl rfl (mod_nat t.w1)
  have m2 : bin2 modD (M.pure (.int 1)) (rd 1) ρ = some (.ok (.int ((1 % h : Nat) : Int)) ρ) := bin2_ok (a := .int ((1 : Nat) : Int)) (b := .int (h : Nat)) (ρ1 := ρ) rfl rfl (mod_nat t.h1)
  refine runD_ret (ρ' := ρ) (seq_nx (ρ1 := ρ) (drop_ok (d := .non) (call2_ok (ρ1 := ρ) (ρ2 := ρ) rfl rfl (check_sides_eval t))) (retM_ok ?_))
  refine bind_ok (a := [D.int w, .int h, pN (gF w), pN (gS h)]) (ρ1 := ρ) ?_ rfl
  refine cons_ok (ρ1 := ρ) rfl (cons_ok (ρ1 := ρ) rfl (cons_ok (ρ1 := ρ) (a := pN (gF w)) ?_ (cons_ok (ρ1 := ρ) (ρ2 := ρ) (a := pN (gS h)) (ds := []) ?_ rfl)))
  · exact bind_ok (a := [D.int ((1 % w : Nat) : Int), .int 0]) (ρ1 := ρ) (cons_ok (ρ1 := ρ) m1 (cons_ok (ρ1 := ρ) (ρ2 := ρ) (ds := []) rfl rfl)) rfl
  · exact bind_ok (a := [D.int 0, .int ((1 % h : Nat) : Int)]) (ρ1 := ρ) (cons_ok (ρ1 := ρ) rfl (cons_ok (ρ1 := ρ) (ρ2 := ρ) (ds := []) m2 rfl)) rfl
theorem shares_eval (t : OkT w h f s) : d_shares [.int w, .int h] = some (.ok (.tup ((sharesP w h).map fun (e : Nat) => .tup [.int e, .int ((Nat.gcd w h : Nat) - (e : Int))]))) := by
  have g12 : Nat.gcd w h ≤ 12 := Nat.le_trans (Nat.gcd_le_left _ t.w1) t.w12
  let ρ : Slot → Slot → Sto := fun a b => [.val (.int w), .val (.int h), a, b]
  let G : Slot := .val (.int (Nat.gcd w h : Nat))
  have e1 : setM 2 (M.bind (consM (rd 0) (consM (rd 1) (M.pure []))) fun ds => M.lift (int2 gcdI ds)) (ρ .emp .emp) = some (.ok .nx (ρ G .emp)) := by
    refine (set_ok (ρ1 := ρ .emp .emp) (d := .int (Nat.gcd w h : Nat)) (bind_ok (a := [D.int w, .int h]) (ρ1 := ρ .emp .emp) rfl ?_)).trans rfl
    simp only [M.lift, gcd_eval, Option.map_some]
  have it : rngM rng1 (consM (bin2 addD (rd 2) (M.pure (.int 1))) (M.pure [])) (ρ G .emp) = some (.ok ((List.range (Nat.gcd w h + 1)).map fun (i : Nat) => D.int i) (ρ G .emp)) := by
    refine bind_ok (a := [D.int ((Nat.gcd w h + 1 : Nat) : Int)]) (ρ1 := ρ G .emp) (one_ok (bin2_ok (a := .int (Nat.gcd w h : Nat)) (b := .int 1) (ρ1 := ρ G .emp) rfl rfl rfl)) ?_
    simp only [M.lift, rng_eval' (n := Nat.gcd w h + 1) (by omega), Option.map_some]
  have key := lc_runs (vs := [3]) (t := .nm 3) (tt := c_shares_0) (f := e_shares_0) (ρ := ρ G .emp) (fun (i : Nat) => D.int i) (shOk w h) (fun (e : Nat) => D.tup [.int e, .int ((Nat.gcd w h : Nat) - (e : Int))]) (List.range (Nat.gcd w h + 1)) [] (fun e he => by
    have he := List.mem_range.mp he
    let σ : Sto := ρ G (.val (.int (e : Nat)))
    have a1 : bin2 eqD (M.bind (consM (rd 3) (consM (rd 0) (M.pure []))) fun ds => M.lift (int2 gcdI ds)) (M.pure (.int 1)) σ = some (.ok (decide (Nat.gcd e w = 1)) σ) := by
      refine bin2_ok (a := .int (Nat.gcd e w : Nat)) (b := .int 1) (ρ1 := σ) (bind_ok (a := [D.int e, .int w]) (ρ1 := σ) rfl (by simp only [M.lift, gcd_eval, Option.map_some])) rfl ?_
      rw [eq_int]
      exact congrArg some (decide_eq_decide.mpr (by omega))
    have sb : ((Nat.gcd w h : Nat) : Int) - (e : Int) = ((Nat.gcd w h - e : Nat) : Int) := by omega
    have a2 : bin2 eqD (M.bind (consM (bin2 subD (rd 2) (rd 3)) (consM (rd 1) (M.pure []))) fun ds => M.lift (int2 gcdI ds)) (M.pure (.int 1)) σ = some (.ok (decide (Nat.gcd (Nat.gcd w h - e) h = 1)) σ) := by
      refine bin2_ok (a := .int (Nat.gcd (Nat.gcd w h - e) h : Nat)) (b := .int 1) (ρ1 := σ) (bind_ok (a := [D.int ((Nat.gcd w h - e : Nat) : Int), .int h]) (ρ1 := σ) ?_ (by simp only [M.lift, gcd_eval, Option.map_some])) rfl ?_
      · rw [← sb]; rfl
      · rw [eq_int]
        exact congrArg some (decide_eq_decide.mpr (by omega))
    refine ⟨σ, σ, rfl, ?_, fun _ => rfl, fun _ => ⟨σ, rfl, rfl⟩⟩
    unfold c_shares_0 shOk
    by_cases c : Nat.gcd e w = 1
    · rw [decide_eq_true c] at a1
      rw [andT a1 a2, decide_eq_true c, Bool.true_and]
    · rw [decide_eq_false c] at a1
      rw [andF a1, decide_eq_false c, Bool.false_and]) (by rw [List.length_range]; show 0 + _ ≤ _; omega)
  refine runD_ret (ρ' := ρ G .emp) (seq_nx (ρ1 := ρ .emp .emp) (drop_ok (d := .non) (call2_ok (ρ1 := ρ .emp .emp) (ρ2 := ρ .emp .emp) rfl rfl (check_sides_eval t))) (seq_nx (ρ1 := ρ G .emp) e1 (retM_ok (tup1_ok (a := .lst ((sharesP w h).map fun (e : Nat) => .tup [.int e, .int ((Nat.gcd w h : Nat) - (e : Int))])) (map_ok ((lc_ok it key).trans rfl)) rfl))))
end

end K05

namespace K05
open K04 Dn
/-! ### the law's own divisor, its own shares -/
def divOk (a b : Nat) : Bool := match d__law_divisor2 [.int a, .int b] with
  | some (.ok (.int g)) => decide (g = ((Nat.gcd a b : Nat) : Int))
  | _ => false
theorem div_all : ((List.range 13).all fun a => (List.range 13).all fun b => (decide (a = 0) && decide (b = 0)) || divOk a b) = true := by decide +kernel
theorem divisor_eval {a b : Nat} (ha : a ≤ 12) (hb : b ≤ 12) (h : ¬ (a = 0 ∧ b = 0)) : d__law_divisor2 [.int a, .int b] = some (.ok (.int (Nat.gcd a b : Nat))) := by
  have h1 := List.all_eq_true.mp (List.all_eq_true.mp div_all a (List.mem_range.mpr (by omega))) b (List.mem_range.mpr (by omega))
  have h2 : (decide (a = 0) && decide (b = 0)) = false := by
    by_cases x : a = 0
    · by_cases y : b = 0
      · exact absurd ⟨x, y⟩ h
      · rw [decide_eq_false y, Bool.and_false]
    · rw [decide_eq_false x, Bool.false_and]
  rw [h2, Bool.false_or] at h1
  unfold divOk at h1
  split at h1
  · rename_i g e
    rw [e, of_decide_eq_true h1]
  · cases h1
def ordAll (N : Nat) : Bool := (List.range N).all fun w => (List.range N).all fun h => decide (w = 0) || decide (h = 0) || (List.range (Nat.gcd w h + 1)).all fun e => decide (ordP w h (e % w, (Nat.gcd w h - e) % h) = w * h / Nat.gcd w h) == shOk w h e
theorem ord_all : ordAll 13 = true := by decide +kernel
theorem ord_share {w h e : Nat} (w1 : 1 ≤ w) (w2 : w ≤ 12) (h1 : 1 ≤ h) (h2 : h ≤ 12) (he : e ≤ Nat.gcd w h) : decide (ordP w h (e % w, (Nat.gcd w h - e) % h) = w * h / Nat.gcd w h) = shOk w h e := by
  have z := List.all_eq_true.mp (List.all_eq_true.mp ord_all w (List.mem_range.mpr (by omega))) h (List.mem_range.mpr (by omega))
  rw [decide_eq_false (show ¬ w = 0 by omega), decide_eq_false (show ¬ h = 0 by omega), Bool.false_or, Bool.false_or] at z
  exact eq_of_beq (List.all_eq_true.mp z e (List.mem_range.mpr (by omega)))
def shD (w h : Nat) (e : Nat) : D := .tup [.int e, .int ((Nat.gcd w h : Nat) - (e : Int))]
def dueL (w h : Nat) : List D := (sharesP w h).map (shD w h)
theorem okGrid {w h : Nat} (w1 : 1 ≤ w) (w2 : w ≤ 12) (h1 : 1 ≤ h) (h2 : h ≤ 12) (b : 2 ≤ w * h) : OkT w h (gF w) (gS h) := ⟨w1, w2, h1, h2, b, Nat.mul_le_mul w2 h2, Nat.mod_lt _ w1, h1, w1, Nat.mod_lt _ h1, fun e => by
  have e1 : 1 % w = 0 := congrArg Prod.fst e
  have e2 : 0 = 1 % h := congrArg Prod.snd e
  have a : w = 1 := by
    by_cases c : w = 1
    · exact c
    · rw [Nat.mod_eq_of_lt (by omega)] at e1; omega
  have b' : h = 1 := by
    by_cases c : h = 1
    · exact c
    · rw [Nat.mod_eq_of_lt (by omega)] at e2; omega
  rw [a, b'] at b
  omega⟩
theorem gcd_pos {w h : Nat} (w1 : 1 ≤ w) : 1 ≤ Nat.gcd w h := Nat.gcd_pos_of_pos_left _ w1
theorem gcd_12 {w h : Nat} (w1 : 1 ≤ w) (w2 : w ≤ 12) : Nat.gcd w h ≤ 12 := Nat.le_trans (Nat.gcd_le_left _ w1) w2
/-- the words of a town as the text writes it -/
def townM (i j : Nat) : M D := tupM (consM (rd i) (consM (rd j) (consM (tupM (consM (bin2 modD (M.pure (.int 1)) (rd i)) (consM (M.pure (.int 0)) (M.pure [])))) (consM (tupM (consM (M.pure (.int 0)) (consM (bin2 modD (M.pure (.int 1)) (rd j)) (M.pure [])))) (M.pure [])))))
theorem town_ok {w h i j : Nat} {ρ : Sto} (w1 : 1 ≤ w) (h1 : 1 ≤ h) (e1 : rd i ρ = some (.ok (.int w) ρ)) (e2 : rd j ρ = some (.ok (.int h) ρ)) : townM i j ρ = some (.ok (tD w h (gF w) (gS h)) ρ) := by
  have m1 : bin2 modD (M.pure (.int 1)) (rd i) ρ = some (.ok (.int ((1 % w : Nat) : Int)) ρ) := bin2_ok (a := .int ((1 : Nat) : Int)) (b := .int (w : Nat)) (ρ1 := ρ) rfl e1 (mod_nat w1)
  have m2 : bin2 modD (M.pure (.int 1)) (rd j) ρ = some (.ok (.int ((1 % h : Nat) : Int)) ρ) := bin2_ok (a := .int ((1 : Nat) : Int)) (b := .int (h : Nat)) (ρ1 := ρ) rfl e2 (mod_nat h1)
  refine bind_ok (a := [D.int w, .int h, pN (gF w), pN (gS h)]) (ρ1 := ρ) ?_ rfl
  refine cons_ok (ρ1 := ρ) e1 (cons_ok (ρ1 := ρ) e2 (cons_ok (ρ1 := ρ) (a := pN (gF w)) ?_ (cons_ok (ρ1 := ρ) (ρ2 := ρ) (a := pN (gS h)) (ds := []) ?_ rfl)))
  · exact bind_ok (a := [D.int ((1 % w : Nat) : Int), .int 0]) (ρ1 := ρ) (cons_ok (ρ1 := ρ) m1 (cons_ok (ρ1 := ρ) (ρ2 := ρ) (ds := []) rfl rfl)) rfl
  · exact bind_ok (a := [D.int 0, .int ((1 % h : Nat) : Int)]) (ρ1 := ρ) (cons_ok (ρ1 := ρ) rfl (cons_ok (ρ1 := ρ) (ρ2 := ρ) (ds := []) m2 rfl)) rfl
theorem rd_own {i : Nat} {ρ : Sto} {c : Co} (h : ρ[i]? = some (.own false c)) : rd i ρ = some (.ok c.d (ρ.set i (.val c.d))) := by
  unfold rd
  rw [h]
theorem law_shares_eval {w h : Nat} (w1 : 1 ≤ w) (w2 : w ≤ 12) (h1 : 1 ≤ h) (h2 : h ≤ 12) (b : 2 ≤ w * h) : d__law_shares2 [.int w, .int h] = some (.ok (.lst (dueL w h))) := by
  have t := okGrid w1 w2 h1 h2 b
  have g1 := gcd_pos (h := h) w1
  have g2 := gcd_12 (h := h) w1 w2
  have wh : w * h ≤ 144 := t.most
  let S : Slot → List D → Slot → Slot → Slot → Sto := fun T f l z e => [.val (.int w), .val (.int h), T, .own false (.lst f), l, z, e]
  let ρ0 : Sto := [.val (.int w), .val (.int h), .emp, .emp, .emp, .emp, .emp]
  let T : Slot := .val (tD w h (gF w) (gS h))
  let g := Nat.gcd w h
  let L : Slot := .val (.int (g : Nat))
  let Z : Slot := .val (.int ((w * h / g : Nat) : Int))
  have s1 : par2 2 3 (.v (townM 0 1)) (.c (lstM (M.pure []))) ρ0 = some (.ok .nx (S T [] .emp .emp .emp)) :=
    par2_ok (P := .v (townM 0 1)) (Q := .c (lstM (M.pure []))) (x := .v (tD w h (gF w) (gS h))) (y := .c (.lst [])) (ρ1 := ρ0) (ρ2 := ρ0) (map_ok (town_ok w1 h1 rfl rfl)) rfl
  have dv : callM 2 d__law_divisor2 (consM (rd 0) (consM (rd 1) (M.pure []))) (S T [] .emp .emp .emp) = some (.ok (.int (g : Nat)) (S T [] .emp .emp .emp)) := call2_ok (a := .int w) (b := .int h) (ρ1 := S T [] .emp .emp .emp) rfl rfl (divisor_eval w2 h2 (by omega))
  have s2 : par2 4 5 (.v (callM 2 d__law_divisor2 (consM (rd 0) (consM (rd 1) (M.pure []))))) (.v (bin2 divD (bin2 mulD (rd 0) (rd 1)) (callM 2 d__law_divisor2 (consM (rd 0) (consM (rd 1) (M.pure [])))))) (S T [] .emp .emp .emp) = some (.ok .nx (S T [] L Z .emp)) :=
    par2_ok (P := .v _) (Q := .v _) (x := .v (.int (g : Nat))) (y := .v (.int ((w * h / g : Nat) : Int))) (ρ1 := S T [] .emp .emp .emp) (ρ2 := S T [] .emp .emp .emp) (map_ok dv) (map_ok (bin2_ok (a := .int ((w * h : Nat) : Int)) (b := .int (g : Nat)) (ρ1 := S T [] .emp .emp .emp) (bin2_ok (a := .int w) (b := .int h) (ρ1 := S T [] .emp .emp .emp) rfl rfl (mul_eval (by omega))) dv (div_eval (by omega) (by omega))))
  let Inv : List Nat → Sto → Prop := fun pre ρ => ∃ x6, ρ = S T ((pre.filter (shOk w h)).map (shD w h)) L Z x6
  obtain ⟨ρ', e, x6, I⟩ := for_pre (t := .nm 6) (g := l__law_shares2_0) (fun (i : Nat) => D.int i) Inv (List.range (g + 1)) (fun pre p post ρ hs ⟨x6, I⟩ => by
    subst I
    have hp : p ≤ g := by
      have : p ∈ List.range (g + 1) := by rw [hs]; exact List.mem_append_right _ List.mem_cons_self
      have := List.mem_range.mp this
      omega
    have hpl : pre.length ≤ 13 := by
      have := congrArg List.length hs
      rw [List.length_range, List.length_append] at this
      omega
    let f := (pre.filter (shOk w h)).map (shD w h)
    let σ := S T f L Z (.val (.int (p : Nat)))
    have sb : ((g : Nat) : Int) - (p : Int) = ((g - p : Nat) : Int) := by omega
    have ta : tupM (consM (bin2 modD (rd 6) (rd 0)) (consM (bin2 modD (bin2 subD (rd 4) (rd 6)) (rd 1)) (M.pure []))) σ = some (.ok (pN (p % w, (g - p) % h)) σ) := by
      refine bind_ok (a := [D.int ((p % w : Nat) : Int), .int (((g - p) % h : Nat) : Int)]) (ρ1 := σ) (cons_ok (ρ1 := σ) (bin2_ok (a := .int (p : Nat)) (b := .int (w : Nat)) (ρ1 := σ) rfl rfl (mod_nat w1)) (cons_ok (ρ1 := σ) (ρ2 := σ) (ds := []) (bin2_ok (a := .int ((g - p : Nat) : Int)) (b := .int (h : Nat)) (ρ1 := σ) ?_ rfl (mod_nat h1)) rfl)) rfl
      rw [← sb]
      rfl
    have row := row_eval t (d := (p % w, (g - p) % h)) (Nat.mod_lt _ w1) (Nat.mod_lt _ h1)
    have tst : bin2 eqD (M.bind (oneM (callM 2 d__law_row (consM (rd 2) (consM (tupM (consM (bin2 modD (rd 6) (rd 0)) (consM (bin2 modD (bin2 subD (rd 4) (rd 6)) (rd 1)) (M.pure [])))) (M.pure []))))) fun ds => M.lift (lenD ds)) (pk 5) σ = some (.ok (shOk w h p) σ) := by
      refine bin2_ok (a := .int (ordP w h (p % w, (g - p) % h) : Nat)) (b := .int ((w * h / g : Nat) : Int)) (ρ1 := σ) (len_ok (call2_ok (a := tD w h (gF w) (gS h)) (b := pN (p % w, (g - p) % h)) (ρ1 := σ) (ρ2 := σ) rfl ta row) ?_) rfl ?_
      · rw [len_lst, List.length_map, row_len]
      · rw [eq_int, ← ord_share w1 w2 h1 h2 hp]
        exact congrArg some (decide_eq_decide.mpr Int.ofNat_inj)
    refine ⟨σ, ?_⟩
    by_cases c : shOk w h p = true
    · rw [c] at tst
      refine ⟨S T (f ++ [shD w h p]) L Z (.val (.int (p : Nat))), rfl, if_tt tst (drop_ok (d := .non) (Eq.trans (append_ok (i := 3) (ρ1 := σ) (ds1 := f) (ds := f) (d := shD w h p) (b := false) (b1 := false) rfl ?_ rfl ?_) rfl)), .val (.int (p : Nat)), ?_⟩
      · exact bind_ok (a := [D.int (p : Nat), .int ((g : Nat) - (p : Int))]) (ρ1 := σ) rfl rfl
      · show ((pre.filter (shOk w h)).map (shD w h)).length ≤ 100000
        rw [List.length_map]
        exact Nat.le_trans (List.length_filter_le _ _) (by omega)
      · show _ = S T (((pre ++ [p]).filter (shOk w h)).map (shD w h)) L Z _
        rw [List.filter_append, List.filter_cons_of_pos c, List.filter_nil, List.map_append, List.map_cons, List.map_nil]
    · have c' := Bool.eq_false_iff.mpr c
      rw [c'] at tst
      refine ⟨σ, rfl, if_ff tst rfl, .val (.int (p : Nat)), ?_⟩
      show _ = S T (((pre ++ [p]).filter (shOk w h)).map (shD w h)) L Z _
      rw [List.filter_append, List.filter_cons_of_neg c, List.filter_nil, List.append_nil]) (List.range (g + 1)) [] (S T [] L Z .emp) rfl ⟨.emp, rfl⟩
  have it : rngM rng1 (consM (bin2 addD (rd 4) (M.pure (.int 1))) (M.pure [])) (S T [] L Z .emp) = some (.ok ((List.range (g + 1)).map fun (i : Nat) => D.int i) (S T [] L Z .emp)) := by
    refine bind_ok (a := [D.int ((g + 1 : Nat) : Int)]) (ρ1 := S T [] L Z .emp) (one_ok (bin2_ok (a := .int (g : Nat)) (b := .int 1) (ρ1 := S T [] L Z .emp) rfl rfl rfl)) ?_
    simp only [M.lift, rng_eval' (n := g + 1) (by omega), Option.map_some]
  subst I
  exact runD_ret (seq_nx s1 (seq_nx s2 (seq_nx (for_ok it e) (retM_ok (d := .lst (dueL w h)) (ρ1 := (S T (dueL w h) L Z x6).set 3 (.val (.lst (dueL w h)))) (rd_own (c := .lst (dueL w h)) rfl)))))
end K05

namespace K05
open K04 Dn
/-! ### the grids with rounds -/
def okP (a b : Nat) : Bool := decide (1 < a * b) && !(sharesP a b).isEmpty
def rowG (m a : Nat) : List Pt2 := ((List.range m).filter fun b => okP (a + 1) (b + 1)).map fun b => (a + 1, b + 1)
def goodP (m : Nat) : List Pt2 := (List.range m).flatMap (rowG m)
def eqPairs : List D → List Pt2 → Bool
  | [], [] => true
  | .tup [.int x, .int y] :: l, p :: r => decide (x = (p.1 : Int)) && decide (y = (p.2 : Int)) && eqPairs l r
  | _, _ => false
theorem eqPairs_eq : ∀ {l : List D} {ps : List Pt2}, eqPairs l ps = true → l = ps.map pN
  | [], [], _ => rfl
  | [], _ :: _, h => by simp [eqPairs] at h
  | d :: l, ps, h => by
    unfold eqPairs at h
    split at h
    · exact absurd (by assumption : d :: l = []) (by simp)
    · rename_i x y l' p r e
      cases e
      rw [Bool.and_eq_true, Bool.and_eq_true, decide_eq_true_eq, decide_eq_true_eq] at h
      obtain ⟨⟨h1, h2⟩, h3⟩ := h
      rw [h1, h2, eqPairs_eq h3]
      rfl
    · cases h
def rgOk (m : Nat) : Bool := match d_round_grids [.int m] with
  | some (.ok (.tup l)) => eqPairs l (goodP m)
  | _ => false
theorem rg_all : ((List.range 13).all fun m => decide (m = 0) || rgOk m) = true := by decide +kernel
theorem round_grids_eval {m : Nat} (m1 : 1 ≤ m) (m2 : m ≤ 12) : d_round_grids [.int m] = some (.ok (.tup ((goodP m).map pN))) := by
  have h := List.all_eq_true.mp rg_all m (List.mem_range.mpr (by omega))
  rw [decide_eq_false (show ¬ m = 0 by omega), Bool.false_or] at h
  unfold rgOk at h
  split at h
  · rename_i l e
    rw [e, eqPairs_eq h]
  · cases h
end K05

namespace K05
open K04 Dn
structure R where
  ns : List Int
  row : List D
  x2 : Slot
  x3 : Slot
  x4 : Slot
  x5 : Slot
  x6 : Slot
  x7 : Slot
  x8 : Slot
  x9 : Slot
  x10 : Slot
  x11 : Slot
  x12 : Slot
  x13 : Slot
def R.st (c : R) : Sto := [.val (.scr c.ns), .own false (.lst c.row), c.x2, c.x3, c.x4, c.x5, c.x6, c.x7, c.x8, c.x9, c.x10, c.x11, c.x12, c.x13, .emp, .emp]
section
variable {c : R} {i sd cc : Int}
theorem h0_ok (ns : List Int) : h0_law (start0 16 [.scr ns]) = some (.ok .nx (⟨ns, rowD ns 0 6105 0, .emp, .emp, .emp, .emp, .emp, .emp, .emp, .emp, .emp, .emp, .emp, .emp⟩ : R).st) := own_ok (c := .lst (rowD ns 0 6105 0)) (ρ1 := start0 16 [.scr ns]) rfl
/-- 1 + _law_taken(row, 12) -/
theorem side_ok (k : OkR i sd) (hr : c.row = rowD c.ns i sd cc) : ∃ (w : Nat) (i' sd' cc' : Int), 1 ≤ w ∧ w ≤ 12 ∧ OkR i' sd' ∧ bin2 addD (M.pure (.int 1)) (lendM 1 2 d__law_taken (consM (M.pure (.int 12)) (M.pure []))) c.st = some (.ok (.int w) ({ c with row := rowD c.ns i' sd' cc' } : R).st) := by
  obtain ⟨r, i', sd', cc', e, a, b, x, y, z⟩ := taken_eval (ns := c.ns) (i := i) (sd := sd) (c := cc) (many := 12) k.1 k.2.1 k.2.2 (by decide) (by decide)
  refine ⟨(1 + r).toNat, i', sd', cc', by omega, by omega, ⟨x, y, z⟩, bin2_ok (a := .int 1) (b := .int r) (ρ1 := c.st) rfl (Eq.trans (lendM_ok (i := 1) (ρ1 := c.st) (ds := [.int 12]) (rs0 := c.row) (rs := c.row) (b := false) (b1 := false) rfl (one_ok rfl) rfl rfl (by rw [hr]; exact e)) rfl) ?_⟩
  rw [add_int, show ((1 + r).toNat : Int) = 1 + r by omega]
theorem h1_ok (k : OkR i sd) (hr : c.row = rowD c.ns i sd cc) : ∃ (w h : Nat) (i' sd' cc' : Int), 1 ≤ w ∧ w ≤ 12 ∧ 1 ≤ h ∧ h ≤ 12 ∧ OkR i' sd' ∧ h1_law c.st = some (.ok .nx ({ c with row := rowD c.ns i' sd' cc', x2 := .val (.int w), x3 := .val (.int h) } : R).st) := by
  obtain ⟨w, i1, sd1, c1, a1, a2, k1, e1⟩ := side_ok k hr
  obtain ⟨h, i2, sd2, c2, b1, b2, k2, e2⟩ := side_ok (c := { c with row := rowD c.ns i1 sd1 c1 }) k1 rfl
  exact ⟨w, h, i2, sd2, c2, a1, a2, b1, b2, k2, par2_ok (P := .v _) (Q := .v _) (x := .v (.int w)) (y := .v (.int h)) (map_ok e1) (map_ok e2)⟩
theorem h2_ok {w h : Nat} (a1 : 1 ≤ w) (a2 : w ≤ 12) (b1 : 1 ≤ h) (b2 : h ≤ 12) (e2 : c.x2 = .val (.int w)) (e3 : c.x3 = .val (.int h)) : ∃ v : Nat, 1 ≤ v ∧ v ≤ 12 ∧ 2 ≤ v * h ∧ h2_law c.st = some (.ok .nx ({ c with x2 := .val (.int v) } : R).st) := by
  have t : bin2 ltD (bin2 mulD (rd 2) (rd 3)) (M.pure (.int 2)) c.st = some (.ok (decide (w * h < 2)) c.st) := by
    refine bin2_ok (a := .int ((w * h : Nat) : Int)) (b := .int 2) (ρ1 := c.st) (bin2_ok (a := .int w) (b := .int h) (ρ1 := c.st) (rd_val (i := 2) (congrArg some e2)) (rd_val (i := 3) (congrArg some e3)) (mul_eval (by omega))) rfl ?_
    rw [lt_int]
    exact congrArg some (decide_eq_decide.mpr (by omega))
  have hp : 1 ≤ w * h := Nat.mul_pos a1 b1
  by_cases q : w * h < 2
  · have w1 : w * h = 1 := by omega
    have h1 : h = 1 := Nat.eq_one_of_mul_eq_one_left w1
    rw [decide_eq_true q] at t
    have e : iteM (bin2 ltD (bin2 mulD (rd 2) (rd 3)) (M.pure (.int 2))) (M.pure (.int 2)) (rd 2) c.st = some (.ok (.int 2) c.st) := (ite_val t).trans rfl
    exact ⟨2, by omega, by omega, by omega, set_ok e⟩
  · rw [decide_eq_false q] at t
    have e : iteM (bin2 ltD (bin2 mulD (rd 2) (rd 3)) (M.pure (.int 2))) (M.pure (.int 2)) (rd 2) c.st = some (.ok (.int w) c.st) := (ite_val t).trans (rd_val (i := 2) (congrArg some e2))
    exact ⟨w, a1, a2, by omega, set_ok e⟩
end
section
variable {c : R} {i sd cc : Int} {w h : Nat} (w1 : 1 ≤ w) (w2 : w ≤ 12) (h1 : 1 ≤ h) (h2 : h ≤ 12) (b : 2 ≤ w * h) (e2 : c.x2 = .val (.int w)) (e3 : c.x3 = .val (.int h))
include w1 w2 h1 h2 b e2 e3
theorem h3_ok : h3_law c.st = some (.ok .nx ({ c with x4 := .val (tD w h (gF w) (gS h)), x5 := .val (.lst (dueL w h)) } : R).st) :=
  par2_ok (P := .v (townM 2 3)) (Q := .v _) (x := .v (tD w h (gF w) (gS h))) (y := .v (.lst (dueL w h))) (ρ1 := c.st) (ρ2 := c.st) (map_ok (town_ok w1 h1 (rd_val (i := 2) (congrArg some e2)) (rd_val (i := 3) (congrArg some e3))))
    (map_ok (call2_ok (a := .int w) (b := .int h) (ρ1 := c.st) (rd_val (i := 2) (congrArg some e2)) (rd_val (i := 3) (congrArg some e3)) (law_shares_eval w1 w2 h1 h2 b)))
omit w1 w2 h1 h2 b e2 e3 in
theorem shares_len (w h : Nat) : (sharesP w h).length ≤ Nat.gcd w h + 1 := by
  unfold sharesP
  exact Nat.le_trans (List.length_filter_le _ _) (by rw [List.length_range]; exact Nat.le_refl _)
omit h1 h2 b e2 e3 in
theorem due_len : (dueL w h).length ≤ 13 := by
  unfold dueL
  rw [List.length_map]
  have := shares_len w h
  have := gcd_12 (h := h) w1 w2
  omega
omit h1 h2 b e2 e3 in
theorem good_due (n : Nat) : good (n + 2) (.tup (dueL w h)) = true := by
  unfold good
  rw [Bool.and_eq_true, decide_eq_true_iff, List.all_eq_true]
  refine ⟨by have := due_len (h := h) w1 w2; omega, fun x hx => ?_⟩
  obtain ⟨e, _, rfl⟩ := List.mem_map.mp hx
  simp [shD, good]
omit w1 w2 h1 h2 b e2 e3 in
theorem good_tD (n : Nat) (f s : Pt2) : good (n + 2) (tD w h f s) = true := by
  simp [tD, good, pN]
omit w1 w2 h1 h2 b e2 e3 in
/-- what is the same is found alike -/
theorem alike_ok {fa fb : M D} {ρ ρ1 ρ2 : Sto} {d : D} (ha : fa ρ = some (.ok d ρ1)) (hb : fb ρ1 = some (.ok d ρ2)) (g : good 7 d = true) : ifM (notM (testB (callM 2 (d__law_alike 8) (consM fa (consM fb (M.pure [])))))) (retM (M.pure (.bl false))) (M.pure .nx) ρ = some (.ok .nx ρ2) :=
  if_ff (ρ1 := ρ2) (not_ok (b := true) (testB_ok (call2_ok ha hb (alike_self 7 d g)))) rfl
theorem h4_ok (e4 : c.x4 = .val (tD w h (gF w) (gS h))) (e5 : c.x5 = .val (.lst (dueL w h))) : h4_law c.st = some (.ok .nx c.st) := by
  have t := okGrid w1 w2 h1 h2 b
  have r2 : rd 2 c.st = some (.ok (.int w) c.st) := rd_val (i := 2) (congrArg some e2)
  have r3 : rd 3 c.st = some (.ok (.int h) c.st) := rd_val (i := 3) (congrArg some e3)
  refine alike_ok (d := .lst [tD w h (gF w) (gS h), .tup (dueL w h)]) (ρ1 := c.st) (lst2_ok (call2_ok r2 r3 (grid_eval t)) (call2_ok r2 r3 (shares_eval t))) (lst2_ok (rd_val (i := 4) (congrArg some e4)) (tup1_ok (a := .lst (dueL w h)) (rd_val (i := 5) (congrArg some e5)) rfl)) ?_
  unfold good
  rw [Bool.and_eq_true, List.all_cons, List.all_cons, good_tD, good_due w1 w2]
  exact ⟨rfl, rfl⟩
omit w1 w2 h1 h2 b e2 e3 in
theorem share_mem {e : Nat} (he : e ∈ sharesP w h) : e ≤ Nat.gcd w h ∧ Nat.gcd e w = 1 ∧ Nat.gcd (Nat.gcd w h - e) h = 1 := by
  unfold sharesP at he
  obtain ⟨m, q⟩ := List.mem_filter.mp he
  unfold shOk at q
  rw [Bool.and_eq_true, decide_eq_true_eq, decide_eq_true_eq] at q
  exact ⟨by have := List.mem_range.mp m; omega, q.1, q.2⟩
omit w1 w2 h1 h2 b e2 e3 in
theorem shD_nat {e : Nat} (he : e ≤ Nat.gcd w h) : shD w h e = .tup [.int e, .int ((Nat.gcd w h - e : Nat) : Int)] := by
  unfold shD
  rw [show ((Nat.gcd w h : Nat) : Int) - (e : Int) = ((Nat.gcd w h - e : Nat) : Int) by omega]
theorem h5_ok (e5 : c.x5 = .val (.lst (dueL w h))) : ∃ y6 y7, h5_law c.st = some (.ok .nx ({ c with x6 := y6, x7 := y7 } : R).st) := by
  let g := Nat.gcd w h
  have g2 := gcd_12 (h := h) w1 w2
  let Inv : List Nat → Sto → Prop := fun _ ρ => ∃ y6 y7, ρ = ({ c with x6 := y6, x7 := y7 } : R).st
  obtain ⟨ρ', e, y6, y7, I⟩ := for_pre (t := .tp [6, 7]) (g := l_law_0) (shD w h) Inv (sharesP w h) (fun pre p post ρ hs ⟨y6, y7, I⟩ => by
    subst I
    obtain ⟨q0, q1, q2⟩ := share_mem (show p ∈ sharesP w h by rw [hs]; exact List.mem_append_right _ List.mem_cons_self)
    let c1 : R := { c with x6 := .val (.int (p : Nat)), x7 := .val (.int ((g - p : Nat) : Int)) }
    have d1 : bin2 neD (callM 2 d__law_divisor2 (consM (rd 6) (consM (rd 2) (M.pure [])))) (M.pure (.int 1)) c1.st = some (.ok false c1.st) := by
      refine bin2_ok (a := .int (Nat.gcd p w : Nat)) (b := .int 1) (ρ1 := c1.st) (call2_ok (a := .int (p : Nat)) (b := .int w) (ρ1 := c1.st) rfl (rd_val (i := 2) (congrArg some e2)) (divisor_eval (by omega) w2 (by omega))) rfl ?_
      rw [ne_int, q1]
      rfl
    have d2 : bin2 neD (callM 2 d__law_divisor2 (consM (rd 7) (consM (rd 3) (M.pure [])))) (M.pure (.int 1)) c1.st = some (.ok false c1.st) := by
      refine bin2_ok (a := .int (Nat.gcd (g - p) h : Nat)) (b := .int 1) (ρ1 := c1.st) (call2_ok (a := .int ((g - p : Nat) : Int)) (b := .int h) (ρ1 := c1.st) rfl (rd_val (i := 3) (congrArg some e3)) (divisor_eval (by omega) h2 (by omega))) rfl ?_
      rw [ne_int, q2]
      rfl
    have d3 : bin2 neD (bin2 addD (rd 6) (rd 7)) (callM 2 d__law_divisor2 (consM (rd 2) (consM (rd 3) (M.pure [])))) c1.st = some (.ok false c1.st) := by
      refine bin2_ok (a := .int ((p : Int) + ((g - p : Nat) : Int))) (b := .int (g : Nat)) (ρ1 := c1.st) (bin2_ok (a := .int (p : Nat)) (b := .int ((g - p : Nat) : Int)) (ρ1 := c1.st) rfl rfl rfl) (call2_ok (a := .int w) (b := .int h) (ρ1 := c1.st) (rd_val (i := 2) (congrArg some e2)) (rd_val (i := 3) (congrArg some e3)) (divisor_eval w2 h2 (by omega))) ?_
      rw [ne_int, decide_eq_true (show (p : Int) + ((g - p : Nat) : Int) = (g : Nat) by omega)]
      rfl
    refine ⟨c1.st, c1.st, ?_, seq_nx (if_ff (orF d1 d2) rfl) (if_ff d3 rfl), _, _, rfl⟩
    rw [shD_nat q0]
    rfl) (sharesP w h) [] c.st rfl ⟨_, _, rfl⟩
  subst I
  exact ⟨y6, y7, for_ok (bind_ok (rd_val (i := 5) (congrArg some e5)) rfl) e⟩
end
end K05

namespace K05
open K04 Dn
theorem rng_from1 {n : Nat} (h1 : 1 ≤ n) (h2 : n ≤ 1000) : rng2 [.int 1, .int (n : Nat)] = some ((List.range (n - 1)).map fun (i : Nat) => D.int (1 + i)) := by
  unfold rng2
  have c : (-100000 ≤ (1 : Int) ∧ (1 : Int) ≤ 100000 ∧ -100000 ≤ ((n : Nat) : Int) ∧ ((n : Nat) : Int) ≤ 100000) := by omega
  show (if (-100000 ≤ (1 : Int) ∧ (1 : Int) ≤ 100000 ∧ -100000 ≤ ((n : Nat) : Int) ∧ ((n : Nat) : Int) ≤ 100000) then some (rangeL 1 (((n : Nat) : Int) - 1).toNat) else none) = _
  rw [if_pos c]
  unfold rangeL
  have e : (((n : Nat) : Int) - 1).toNat = n - 1 := by omega
  rw [e]
theorem grid_cnt {w h : Nat} (w1 : 1 ≤ w) (w2 : w ≤ 12) (h1 : 1 ≤ h) (h2 : h ≤ 12) (b : 2 ≤ w * h) : cntP w h (gapP w h (gF w) (gS h)) = Nat.gcd w h := by
  have z := List.all_eq_true.mp (List.all_eq_true.mp grid_all w (List.mem_range.mpr (by omega))) h (List.mem_range.mpr (by omega))
  rw [decide_eq_false (show ¬ w = 0 by omega), decide_eq_false (show ¬ h = 0 by omega), decide_eq_false (show ¬ w * h < 2 by omega), Bool.false_or, Bool.false_or, Bool.false_or, Bool.and_eq_true, decide_eq_true_eq] at z
  exact z.1
section
variable {c : R} {i sd cc : Int} {w h : Nat} (w1 : 1 ≤ w) (w2 : w ≤ 12) (h1 : 1 ≤ h) (h2 : h ≤ 12) (b : 2 ≤ w * h)
include w1 w2 h1 h2 b
omit h1 h2 b in
theorem good_nums (n : Nat) : good (n + 1) (.tup ((sharesP w h).map fun (e : Nat) => D.int e)) = true := by
  unfold good
  rw [Bool.and_eq_true, decide_eq_true_iff, List.all_eq_true]
  refine ⟨by
    rw [List.length_map]
    have := shares_len w h
    have := gcd_12 (h := h) w1 w2
    omega, fun x hx => ?_⟩
  obtain ⟨e, _, rfl⟩ := List.mem_map.mp hx
  unfold good
  rfl
theorem h6_ok (e4 : c.x4 = .val (tD w h (gF w) (gS h))) (e5 : c.x5 = .val (.lst (dueL w h))) : ∃ y6 y7, h6_law c.st = some (.ok .nx ({ c with x6 := y6, x7 := y7 } : R).st) := by
  have t := okGrid w1 w2 h1 h2 b
  have nm : d_numbers [tD w h (gF w) (gS h)] = some (.ok (.tup ((sharesP w h).map fun (e : Nat) => D.int e))) := by
    rw [← grid_nums t]
    exact numbers_eval t
  let c0 : R := { c with x6 := .emp, x7 := .emp }
  have key := lc_runs (vs := [6, 7]) (t := .tp [6, 7]) (tt := M.pure true) (f := e_law_0) (ρ := c0.st) (shD w h) (fun _ => true) (fun (e : Nat) => D.int e) (sharesP w h) [] (fun e he => by
    let c1 : R := { c with x6 := .val (.int (e : Nat)), x7 := .val (.int ((Nat.gcd w h : Nat) - (e : Int))) }
    exact ⟨c1.st, c1.st, rfl, rfl, fun z => (nomatch z), fun _ => ⟨c1.st, rfl, rfl⟩⟩) (by
      have := shares_len w h
      have := gcd_12 (h := h) w1 w2
      show 0 + _ ≤ _
      omega)
  rw [show (sharesP w h).filter (fun _ => true) = sharesP w h from List.filter_eq_self.mpr fun _ _ => rfl, List.nil_append] at key
  exact ⟨_, _, alike_ok (ρ1 := c.st) (ρ2 := ({ c with x6 := clean (some c.x6), x7 := clean (some c.x7) } : R).st) (call1_ok (rd_val (i := 4) (congrArg some e4)) nm) (tup1_ok (a := .lst ((sharesP w h).map fun (e : Nat) => D.int e)) (map_ok (a := Co.lst ((sharesP w h).map fun (e : Nat) => D.int e)) ((lc_ok (ρ1 := c.st) (ρB := c0.st) (ds := dueL w h) (bind_ok (rd_val (i := 5) (congrArg some e5)) rfl) key).trans rfl)) rfl) (good_nums w1 w2 6)⟩
theorem h7_ok (e4 : c.x4 = .val (tD w h (gF w) (gS h))) (e5 : c.x5 = .val (.lst (dueL w h))) : ∃ y6 y7, h7_law c.st = some (.ok .nx ({ c with x6 := y6, x7 := y7 } : R).st) := by
  have t := okGrid w1 w2 h1 h2 b
  have g2 := gcd_12 (h := h) w1 w2
  let g := Nat.gcd w h
  let c0 : R := { c with x6 := .emp, x7 := .emp }
  let C : Nat → D := fun e => D.int (chooseF g e)
  have key := lc_runs (vs := [6, 7]) (t := .tp [6, 7]) (tt := M.pure true) (f := e_law_1) (ρ := c0.st) (shD w h) (fun _ => true) C (sharesP w h) [] (fun e he => by
    have he' := (share_mem he).1
    let c1 : R := { c with x6 := .val (.int (e : Nat)), x7 := .val (.int ((g : Nat) - (e : Int))) }
    refine ⟨c1.st, c1.st, rfl, rfl, fun z => (nomatch z), fun _ => ⟨c1.st, ?_, rfl⟩⟩
    refine call2_ok (a := .int (g : Nat)) (b := .int (e : Nat)) (ρ1 := c1.st) (bin2_ok (a := .int (e : Nat)) (b := .int ((g : Nat) - (e : Int))) (ρ1 := c1.st) rfl rfl ?_) rfl (choose_eval (by omega) (by omega))
    rw [add_int, show (e : Int) + ((g : Nat) - (e : Int)) = (g : Nat) by omega]) (by
      have := shares_len w h
      show 0 + _ ≤ _
      omega)
  rw [show (sharesP w h).filter (fun _ => true) = sharesP w h from List.filter_eq_self.mpr fun _ _ => rfl, List.nil_append] at key
  have sm : onInts (fun ns => some (D.int ns.sum)) [D.lst ((sharesP w h).map C)] = some (D.int (roundsP w h (gF w) (gS h))) := by
    show (intsOf _).bind _ = _
    rw [ints_map]
    show some (D.int ((sharesP w h).map fun e => chooseF g e).sum) = _
    unfold roundsP
    rw [grid_cnt w1 w2 h1 h2 b, grid_nums t]
    congr 3
    exact List.map_congr_left fun e he => choose_comb (by omega) (share_mem he).1
  have rs : (M.bind (oneM (M.map (lcM [6, 7] (.tp [6, 7]) (seqM (rd 5)) (M.pure true) (e_law_1)) Co.d)) fun ds => M.lift (onInts (fun ns => some (.int ns.sum)) ds)) c.st = some (.ok (.int (roundsP w h (gF w) (gS h))) ({ c with x6 := clean (some c.x6), x7 := clean (some c.x7) } : R).st) := by
    refine bind_ok (a := [D.lst ((sharesP w h).map C)]) (map_ok (map_ok (a := Co.lst ((sharesP w h).map C)) ((lc_ok (ρ1 := c.st) (ρB := c0.st) (ds := dueL w h) (bind_ok (rd_val (i := 5) (congrArg some e5)) rfl) key).trans rfl))) ?_
    simp only [M.lift, sm, Option.map_some]
    rfl
  refine ⟨_, _, if_ff (bin2_ok (call1_ok (rd_val (i := 4) (congrArg some e4)) (count_rounds_eval t)) rs ?_) rfl⟩
  rw [ne_int, decide_eq_true rfl]
  rfl
end
section
variable {c : R} {i sd cc : Int}
theorem h8_ok (k : OkR i sd) (hr : c.row = rowD c.ns i sd cc) : ∃ (m : Nat) (i' sd' cc' : Int), 1 ≤ m ∧ m ≤ 12 ∧ OkR i' sd' ∧ h8_law c.st = some (.ok .nx ({ c with row := rowD c.ns i' sd' cc', x8 := .val (.int m), x9 := .own false (.lst []) } : R).st) := by
  obtain ⟨m, i1, sd1, c1, a1, a2, k1, e1⟩ := side_ok k hr
  exact ⟨m, i1, sd1, c1, a1, a2, k1, par2_ok (P := .v _) (Q := .c (lstM (M.pure []))) (x := .v (.int m)) (y := .c (.lst [])) (map_ok e1) rfl⟩
theorem share_ne {a b : Nat} : neD (.lst (dueL a b)) (.lst []) = some (!(sharesP a b).isEmpty) := by
  unfold dueL
  cases e : sharesP a b with
  | nil => rfl
  | cons x l =>
    have hl : lay 9 (.lst ((x :: l).map (shD a b))) = true := by
      show List.all _ (lay 8) = true
      rw [List.all_eq_true]
      intro d hd
      obtain ⟨e, _, rfl⟩ := List.mem_map.mp hd
      rfl
    unfold neD
    rw [hl, show lay 9 (.lst []) = true from rfl]
    rfl
def cI (i : Nat) : D := .int ((i + 1 : Nat) : Int)
theorem rng1_c {m : Nat} (m1 : 1 ≤ m) (m2 : m ≤ 12) : rng2 [.int 1, .int ((m + 1 : Nat) : Int)] = some ((List.range m).map cI) := by
  rw [rng_from1 (by omega) (by omega)]
  congr 1
  refine List.map_congr_left fun i _ => ?_
  unfold cI
  rw [show (1 : Int) + (i : Int) = ((i + 1 : Nat) : Int) by omega]
theorem rng_ok {m : Nat} (m1 : 1 ≤ m) (m2 : m ≤ 12) (e8 : c.x8 = .val (.int m)) : rngM rng2 (consM (M.pure (.int 1)) (consM (bin2 addD (rd 8) (M.pure (.int 1))) (M.pure []))) c.st = some (.ok ((List.range m).map cI) c.st) := by
  refine bind_ok (a := [D.int 1, .int ((m + 1 : Nat) : Int)]) (ρ1 := c.st) (cons_ok (ρ1 := c.st) rfl (cons_ok (ρ1 := c.st) (ρ2 := c.st) (ds := []) (bin2_ok (a := .int m) (b := .int 1) (ρ1 := c.st) (rd_val (i := 8) (congrArg some e8)) rfl rfl) rfl)) ?_
  simp only [M.lift, rng1_c m1 m2, Option.map_some]
theorem row_len (m a : Nat) : (rowG m a).length ≤ m := by
  unfold rowG
  rw [List.length_map]
  exact Nat.le_trans (List.length_filter_le _ _) (by rw [List.length_range]; exact Nat.le_refl _)
theorem flat_le (m : Nat) : ∀ l : List Nat, (l.flatMap (rowG m)).length ≤ l.length * m
  | [] => by simp
  | a :: l => by
    rw [List.flatMap_cons, List.length_append, List.length_cons, Nat.add_mul, Nat.one_mul]
    have := flat_le m l
    have := row_len m a
    omega
theorem l1_ok {m a : Nat} {G : List Pt2} (m1 : 1 ≤ m) (m2 : m ≤ 12) (ha : a < 12) (e8 : c.x8 = .val (.int m)) (e9 : c.x9 = .own false (.lst (G.map pN))) (hG : G.length ≤ 1000) (e10 : c.x10 = .val (cI a)) :
    ∃ y11 y12, l_law_1 c.st = some (.ok .nx ({ c with x9 := .own false (.lst ((G ++ rowG m a).map pN)), x11 := y11, x12 := y12 } : R).st) := by
  let c0 : R := { c with x12 := .emp }
  let p1 : Nat → Bool := fun b => decide (1 < (a + 1) * (b + 1))
  have k1 := lc_runs (vs := [12]) (t := .nm 12) (tt := c_law_0) (f := e_law_2) (ρ := c0.st) cI p1 cI (List.range m) [] (fun b hb => by
    let c1 : R := { c with x12 := .val (cI b) }
    have hb' := List.mem_range.mp hb
    refine ⟨c1.st, c1.st, rfl, ?_, fun _ => rfl, fun _ => ⟨c1.st, rfl, rfl⟩⟩
    refine bin2_ok (a := .int (((a + 1) * (b + 1) : Nat) : Int)) (b := .int 1) (ρ1 := c1.st) (bin2_ok (a := cI a) (b := cI b) (ρ1 := c1.st) (rd_val (i := 10) (congrArg some e10)) rfl (mul_eval (by omega))) rfl ?_
    rw [gt_int]
    exact congrArg some (decide_eq_decide.mpr (by omega))) (by rw [List.length_range]; show 0 + _ ≤ _; omega)
  rw [List.nil_append] at k1
  let O := (List.range m).filter p1
  let c2 : R := { c with x11 := .own false (.lst (O.map cI)), x12 := clean (some c.x12) }
  have s1 : ownM 11 (lcM [12] (.nm 12) (rngM rng2 (consM (M.pure (.int 1)) (consM (bin2 addD (rd 8) (M.pure (.int 1))) (M.pure [])))) (c_law_0) (e_law_2)) c.st = some (.ok .nx c2.st) :=
    (own_ok (c := .lst (O.map cI)) ((lc_ok (ρ1 := c.st) (ρB := c0.st) (rng_ok m1 m2 e8) k1).trans rfl)).trans rfl
  let p2 : Nat → Bool := fun b => !(sharesP (a + 1) (b + 1)).isEmpty
  let c3 : R := { c2 with x9 := .val (.lst (G.map pN)), x11 := .val (.lst (O.map cI)) }
  let c4 : R := { c3 with x12 := .emp }
  have k2 := lc_runs (vs := [12]) (t := .nm 12) (tt := c_law_1) (f := e_law_3) (ρ := c4.st) cI p2 (fun b => pN (a + 1, b + 1)) O [] (fun b hb => by
    let c5 : R := { c3 with x12 := .val (cI b) }
    obtain ⟨hb1, hb2⟩ := List.mem_filter.mp hb
    have hb' := List.mem_range.mp hb1
    have hp : 1 < (a + 1) * (b + 1) := of_decide_eq_true hb2
    refine ⟨c5.st, c5.st, rfl, ?_, fun _ => rfl, fun _ => ⟨c5.st, ?_, rfl⟩⟩
    · exact nilNe_ok (d := .lst (dueL (a + 1) (b + 1))) (call2_ok (a := cI a) (b := cI b) (ρ1 := c5.st) (rd_val (i := 10) (congrArg some e10)) rfl (law_shares_eval (by omega) (by omega) (by omega) (by omega) hp)) share_ne
    · exact bind_ok (a := [cI a, cI b]) (ρ1 := c5.st) (cons_ok (ρ1 := c5.st) (rd_val (i := 10) (congrArg some e10)) (cons_ok (ρ1 := c5.st) (ρ2 := c5.st) (ds := []) rfl rfl)) rfl) (by
      have : O.length ≤ m := Nat.le_trans (List.length_filter_le _ _) (by rw [List.length_range]; exact Nat.le_refl _)
      show 0 + _ ≤ _
      omega)
  rw [List.nil_append] at k2
  have er : (O.filter p2).map (fun b => pN (a + 1, b + 1)) = (rowG m a).map pN := by
    unfold rowG
    rw [List.map_map, show O.filter p2 = (List.range m).filter fun b => okP (a + 1) (b + 1) from by
      show ((List.range m).filter p1).filter p2 = _
      rw [List.filter_filter]
      exact List.filter_congr fun b _ => Bool.and_comm _ _]
    rfl
  rw [er] at k2
  let c6 : R := { c3 with x12 := clean (some c2.x12) }
  have s2 : ownM 9 (catM (rd 9) (M.map (lcM [12] (.nm 12) (seqM (rd 11)) (c_law_1) (e_law_3)) Co.d)) c2.st = some (.ok .nx ({ c6 with x9 := .own false (.lst ((G ++ rowG m a).map pN)) } : R).st) := by
    let c7 : R := { c2 with x9 := .val (.lst (G.map pN)) }
    have cat : catM (rd 9) (M.map (lcM [12] (.nm 12) (seqM (rd 11)) (c_law_1) (e_law_3)) Co.d) c2.st = some (.ok (.lst (G.map pN ++ (rowG m a).map pN)) c6.st) := by
      refine bind_ok (a := .lst (G.map pN)) (ρ1 := c7.st) ((rd_own (i := 9) (c := .lst (G.map pN)) (congrArg some e9)).trans rfl) (bind_ok (a := .lst ((rowG m a).map pN)) (ρ1 := c6.st) (map_ok (a := Co.lst ((rowG m a).map pN)) ((lc_ok (ρ1 := c3.st) (ρB := c4.st) (ds := O.map cI) ?_ k2).trans rfl)) ?_)
      · exact bind_ok (a := .lst (O.map cI)) (ρ1 := c3.st) rfl rfl
      · have hl : (G.map pN).length + ((rowG m a).map pN).length ≤ 100000 := by
          rw [List.length_map, List.length_map]
          have := row_len m a
          omega
        have : catC (.lst (G.map pN)) (.lst ((rowG m a).map pN)) = some (.lst (G.map pN ++ (rowG m a).map pN)) := if_pos hl
        simp only [M.lift, this, Option.map_some]
    rw [List.map_append]
    exact (own_ok cat).trans rfl
  exact ⟨_, _, (seq_nx s1 s2).trans rfl⟩
end
end K05

namespace K05
open K04 Dn
section
variable {c : R} {i sd cc : Int}
theorem h9_ok {m : Nat} (m1 : 1 ≤ m) (m2 : m ≤ 12) (e8 : c.x8 = .val (.int m)) (e9 : c.x9 = .own false (.lst [])) : ∃ y10 y11 y12, h9_law c.st = some (.ok .nx ({ c with x9 := .own false (.lst ((goodP m).map pN)), x10 := y10, x11 := y11, x12 := y12 } : R).st) := by
  let Inv : List Nat → Sto → Prop := fun pre ρ => ∃ y10 y11 y12, ρ = ({ c with x9 := .own false (.lst ((pre.flatMap (rowG m)).map pN)), x10 := y10, x11 := y11, x12 := y12 } : R).st
  obtain ⟨ρ', e, y10, y11, y12, I⟩ := for_pre (t := .nm 10) (g := l_law_1) cI Inv (List.range m) (fun pre p post ρ hs ⟨y10, y11, y12, I⟩ => by
    subst I
    have hp : p ∈ List.range m := by rw [hs]; exact List.mem_append_right _ List.mem_cons_self
    have hp' := List.mem_range.mp hp
    have hl : pre.length ≤ m := by
      have := congrArg List.length hs
      rw [List.length_range, List.length_append] at this
      omega
    have hG : (pre.flatMap (rowG m)).length ≤ 1000 := by
      have h1 := flat_le m pre
      have h2 : pre.length * m ≤ 12 * 12 := Nat.mul_le_mul (by omega) m2
      omega
    let c1 : R := { c with x9 := .own false (.lst ((pre.flatMap (rowG m)).map pN)), x10 := .val (cI p), x11 := y11, x12 := y12 }
    obtain ⟨z11, z12, e1⟩ := l1_ok (c := c1) (G := pre.flatMap (rowG m)) m1 m2 (by omega) e8 rfl hG rfl
    refine ⟨c1.st, _, rfl, e1, .val (cI p), z11, z12, ?_⟩
    rw [List.flatMap_append, List.flatMap_cons, List.flatMap_nil, List.append_nil]) (List.range m) [] c.st rfl ⟨c.x10, c.x11, c.x12, by
      show c.st = ({ c with x9 := .own false (.lst []) } : R).st
      rw [← e9]⟩
  subst I
  exact ⟨y10, y11, y12, for_ok (rng_ok m1 m2 e8) e⟩
theorem good_len {m : Nat} (m2 : m ≤ 12) : (goodP m).length ≤ 144 := by
  unfold goodP
  have h1 := flat_le m (List.range m)
  rw [List.length_range] at h1
  have h2 : m * m ≤ 12 * 12 := Nat.mul_le_mul m2 m2
  omega
theorem h10_ok {m : Nat} (m1 : 1 ≤ m) (m2 : m ≤ 12) (e8 : c.x8 = .val (.int m)) (e9 : c.x9 = .own false (.lst ((goodP m).map pN))) : h10_law c.st = some (.ok .nx ({ c with x9 := .val (.lst ((goodP m).map pN)) } : R).st) := by
  refine alike_ok (d := .tup ((goodP m).map pN)) (ρ1 := c.st) (call1_ok (rd_val (i := 8) (congrArg some e8)) (round_grids_eval m1 m2)) (tup1_ok (a := .lst ((goodP m).map pN)) ((rd_own (i := 9) (c := .lst ((goodP m).map pN)) (congrArg some e9)).trans rfl) rfl) ?_
  unfold good
  rw [Bool.and_eq_true, decide_eq_true_iff, List.all_eq_true, List.length_map]
  refine ⟨by have := good_len m2; omega, fun x hx => ?_⟩
  obtain ⟨p, _, rfl⟩ := List.mem_map.mp hx
  exact good_pN 5 p
def bads : List D := [.non, .int 0, .int 13, .bl true, .str "2"]
theorem bads_ok : ∀ (r : Nat) (hr : r < bads.length), BadV bads[r] ∧ imm bads[r] = true
  | 0, _ => ⟨.non, rfl⟩
  | 1, _ => ⟨.zero, rfl⟩
  | 2, _ => ⟨.big, rfl⟩
  | 3, _ => ⟨.yes, rfl⟩
  | 4, _ => ⟨.two, rfl⟩
  | n + 5, h => absurd h (by show ¬ n + 5 < 5; omega)
theorem h11_ok (k : OkR i sd) (hr : c.row = rowD c.ns i sd cc) : ∃ d row', BadV d ∧ imm d = true ∧ h11_law c.st = some (.ok .nx ({ c with row := row', x13 := .val d } : R).st) := by
  obtain ⟨r, i', sd', c', hl, e, _⟩ := pick_any (ns := c.ns) (i := i) (sd := sd) (c := cc) (l := bads) k.1 k.2.1 k.2.2 (by decide) (by decide)
  obtain ⟨b1, b2⟩ := bads_ok r hl
  exact ⟨bads[r], rowD c.ns i' sd' c', b1, b2, (set_ok (Eq.trans (lendM_ok (i := 1) (ρ1 := c.st) (ds := [.lst bads]) (rs0 := c.row) (rs := c.row) (b := false) (b1 := false) rfl (one_ok rfl) rfl rfl (by rw [hr]; exact e)) rfl)).trans rfl⟩
end
theorem math : ∀ ns : List Int, ns.length ≤ 63 → ∃ ρ1 d, head_law (start0 16 [.scr ns]) = some (.ok .nx ρ1) ∧ ρ1[13]? = some (.val d) ∧ BadV d ∧ imm d = true := by
  intro ns _
  obtain ⟨u, h, i1, sd1, c1, a1, a2, b1, b2, k1, e1⟩ := h1_ok (c := ⟨ns, rowD ns 0 6105 0, .emp, .emp, .emp, .emp, .emp, .emp, .emp, .emp, .emp, .emp, .emp, .emp⟩) (i := 0) (sd := 6105) (cc := 0) ⟨by decide, by decide, by decide⟩ rfl
  obtain ⟨w, w1, w2, wb, e2⟩ := h2_ok (c := ⟨ns, rowD ns i1 sd1 c1, .val (.int u), .val (.int h), .emp, .emp, .emp, .emp, .emp, .emp, .emp, .emp, .emp, .emp⟩) a1 a2 b1 b2 rfl rfl
  have e3 := h3_ok (c := ⟨ns, rowD ns i1 sd1 c1, .val (.int w), .val (.int h), .emp, .emp, .emp, .emp, .emp, .emp, .emp, .emp, .emp, .emp⟩) w1 w2 b1 b2 wb rfl rfl
  let T : Slot := .val (tD w h (gF w) (gS h))
  let L : Slot := .val (.lst (dueL w h))
  have e4 := h4_ok (c := ⟨ns, rowD ns i1 sd1 c1, .val (.int w), .val (.int h), T, L, .emp, .emp, .emp, .emp, .emp, .emp, .emp, .emp⟩) w1 w2 b1 b2 wb rfl rfl rfl rfl
  obtain ⟨y6, y7, e5⟩ := h5_ok (c := ⟨ns, rowD ns i1 sd1 c1, .val (.int w), .val (.int h), T, L, .emp, .emp, .emp, .emp, .emp, .emp, .emp, .emp⟩) w1 w2 b1 b2 wb rfl rfl rfl
  obtain ⟨z6, z7, e6⟩ := h6_ok (c := ⟨ns, rowD ns i1 sd1 c1, .val (.int w), .val (.int h), T, L, y6, y7, .emp, .emp, .emp, .emp, .emp, .emp⟩) w1 w2 b1 b2 wb rfl rfl
  obtain ⟨u6, u7, e7⟩ := h7_ok (c := ⟨ns, rowD ns i1 sd1 c1, .val (.int w), .val (.int h), T, L, z6, z7, .emp, .emp, .emp, .emp, .emp, .emp⟩) w1 w2 b1 b2 wb rfl rfl
  obtain ⟨m, i2, sd2, c2, m1, m2, k2, e8⟩ := h8_ok (c := ⟨ns, rowD ns i1 sd1 c1, .val (.int w), .val (.int h), T, L, u6, u7, .emp, .emp, .emp, .emp, .emp, .emp⟩) k1 rfl
  obtain ⟨y10, y11, y12, e9⟩ := h9_ok (c := ⟨ns, rowD ns i2 sd2 c2, .val (.int w), .val (.int h), T, L, u6, u7, .val (.int m), .own false (.lst []), .emp, .emp, .emp, .emp⟩) m1 m2 rfl rfl
  have e10 := h10_ok (c := ⟨ns, rowD ns i2 sd2 c2, .val (.int w), .val (.int h), T, L, u6, u7, .val (.int m), .own false (.lst ((goodP m).map pN)), y10, y11, y12, .emp⟩) m1 m2 rfl rfl
  obtain ⟨d, row', bd, im, e11⟩ := h11_ok (c := ⟨ns, rowD ns i2 sd2 c2, .val (.int w), .val (.int h), T, L, u6, u7, .val (.int m), .val (.lst ((goodP m).map pN)), y10, y11, y12, .emp⟩) k2 rfl
  exact ⟨_, d, seq_nx (h0_ok ns) (seq_nx e1 (seq_nx e2 (seq_nx e3 (seq_nx e4 (seq_nx e5 (seq_nx e6 (seq_nx e7 (seq_nx e8 (seq_nx e9 (seq_nx e10 e11)))))))))), rfl, bd, im⟩
end K05
namespace K04
open Dn
theorem math : ∀ ns : List Int, ns.length ≤ 63 → ∃ ρ1 d, head_law (start0 16 [.scr ns]) = some (.ok .nx ρ1) ∧ ρ1[13]? = some (.val d) ∧ BadV d ∧ imm d = true := K05.math
end K04

open PySem PySem.W PyProof.Rows
set_option maxHeartbeats 0 in
theorem PySem.Challenge.cw_roundstreets_k05_whole_grids_holds : PySem.Challenge.rw_roundstreets_k05_whole_grids.Holds := by
  w_on; o_law; k_head; (case hw => w_witness2)
  k_fill
  refine LamX.walk_ofOwn (l := PySem.Challenge.rw_roundstreets_k05_whole_grids) (n := 63) (k := 13) (x := "script") (CX := fun w => L2N.CX PySem.Challenge.rw_roundstreets_k05_whole_grids.prog w) rfl (by decide) rfl ⟨rfl, by decide, by decide⟩ (by decide +kernel) (fun w h Y => PySem.W.km_in_of Y) ?F (fun _ _ _ _ _ h => Dn.law_cx h)
  case F =>
    intro w mg fa h Y KX G hmg own
    refine' K04.all_law KX G hmg own ?a ?l ?c ?lc ?lP ?hh ?nP K04.math ?B ?D_is_number ?D_is_pair ?D_are_sides ?D_wrong_part ?D_check_town ?D_check_crossing ?D_added ?D_steps_difference ?D_ends ?D_order ?D_is_whole ?D_count_lots ?D_check_sides ?D_grid ?D_shares ?D_round_grids ?D_multiple ?D_rings_made ?D_numbers ?D_count_rounds ?D__law_taken ?D__law_pick ?D__law_alike ?D__law_led ?D__law_row ?D__law_choose ?D__law_divisor2 ?D__law_shares2 ?D__law_bad ?x_BadCrossing ?x_BadNumber ?ia
    (case a => k_is); (case l => k_is); (case c => k_is); (case lc => k_is); (case lP => rfl); (case hh => kernel_rfl); (case nP => kernel_rfl)
    case ia =>
      refine' Dn.is_at (x := "BadNumber") KX G rfl ?ia0 ?ia1 ?ia2 ?ia3 ?ia4 ?ia5 ?ia6 ?ia7 ?ia8 ?ia9
      (case ia0 => k_is); (case ia1 => k_is); (case ia2 => k_is); (case ia3 => k_is); (case ia4 => k_is); (case ia5 => k_is); (case ia6 => k_is); (case ia7 => k_is); (case ia8 => k_is); (case ia9 => first | k_is | kernel_rfl)
    case B =>
      refine' ⟨Dn.ex_of (PySem.W.mg_of KX G ?z_LONGEST_SIDE), PySem.W.mg_none_of KX G ?z_ValueError, PySem.W.mg_none_of KX G ?z_bool, PySem.W.mg_of KX G ?z_comb, PySem.W.mg_of KX G ?z_gcd, PySem.W.mg_none_of KX G ?z_int, PySem.W.mg_none_of KX G ?z_isinstance, PySem.W.mg_of KX G ?z_lcm, PySem.W.mg_none_of KX G ?z_len, PySem.W.mg_none_of KX G ?z_list, PySem.W.mg_none_of KX G ?z_max, PySem.W.mg_none_of KX G ?z_range, PySem.W.mg_none_of KX G ?z_str, PySem.W.mg_none_of KX G ?z_sum, PySem.W.mg_none_of KX G ?z_tuple⟩
      (case z_LONGEST_SIDE => k_is)
      (case z_ValueError => k_is)
      (case z_bool => k_is)
      (case z_comb => k_is)
      (case z_gcd => k_is)
      (case z_int => k_is)
      (case z_isinstance => k_is)
      (case z_lcm => k_is)
      (case z_len => k_is)
      (case z_list => k_is)
      (case z_max => k_is)
      (case z_range => k_is)
      (case z_str => k_is)
      (case z_sum => k_is)
      (case z_tuple => k_is)
    case D_is_number =>
      refine' Dn.def_at KX G ?a ?l ?c ?k (fun _ _ _ _ _ _ us hl => match us, hl with | [_, _, _], _ => rfl)
      (case a => k_is); (case l => k_is); (case c => k_is); (case k => k_is)
    case D_is_pair =>
      refine' Dn.def_at KX G ?a ?l ?c ?k (fun _ _ _ _ _ _ us hl => match us, hl with | [_, _, _], _ => rfl)
      (case a => k_is); (case l => k_is); (case c => k_is); (case k => k_is)
    case D_are_sides =>
      refine' Dn.def_at KX G ?a ?l ?c ?k (fun _ _ _ _ _ _ us hl => match us, hl with | [_, _], _ => rfl)
      (case a => k_is); (case l => k_is); (case c => k_is); (case k => k_is)
    case D_wrong_part =>
      refine' Dn.def_at KX G ?a ?l ?c ?k (fun _ _ _ _ _ _ us hl => match us, hl with | [_], _ => rfl)
      (case a => k_is); (case l => k_is); (case c => k_is); (case k => k_is)
    case D_check_town =>
      refine' Dn.def_at KX G ?a ?l ?c ?k (fun _ _ _ _ _ _ us hl => match us, hl with | [_], _ => rfl)
      (case a => k_is); (case l => k_is); (case c => k_is); (case k => k_is)
    case D_check_crossing =>
      refine' Dn.def_at KX G ?a ?l ?c ?k (fun _ _ _ _ _ _ us hl => match us, hl with | [_, _], _ => rfl)
      (case a => k_is); (case l => k_is); (case c => k_is); (case k => k_is)
    case D_added =>
      refine' Dn.def_at KX G ?a ?l ?c ?k (fun _ _ _ _ _ _ us hl => match us, hl with | [_, _, _], _ => rfl)
      (case a => k_is); (case l => k_is); (case c => k_is); (case k => k_is)
    case D_steps_difference =>
      refine' Dn.def_at KX G ?a ?l ?c ?k (fun _ _ _ _ _ _ us hl => match us, hl with | [_], _ => rfl)
      (case a => k_is); (case l => k_is); (case c => k_is); (case k => k_is)
    case D_ends =>
      refine' Dn.def_at KX G ?a ?l ?c ?k (fun _ _ _ _ _ _ us hl => match us, hl with | [_, _], _ => rfl)
      (case a => k_is); (case l => k_is); (case c => k_is); (case k => k_is)
    case D_order =>
      refine' Dn.def_at KX G ?a ?l ?c ?k (fun _ _ _ _ _ _ us hl => match us, hl with | [_, _], _ => rfl)
      (case a => k_is); (case l => k_is); (case c => k_is); (case k => k_is)
    case D_is_whole =>
      refine' Dn.def_at KX G ?a ?l ?c ?k (fun _ _ _ _ _ _ us hl => match us, hl with | [_], _ => rfl)
      (case a => k_is); (case l => k_is); (case c => k_is); (case k => k_is)
    case D_count_lots =>
      refine' Dn.def_at KX G ?a ?l ?c ?k (fun _ _ _ _ _ _ us hl => match us, hl with | [_], _ => rfl)
      (case a => k_is); (case l => k_is); (case c => k_is); (case k => k_is)
    case D_check_sides =>
      refine' Dn.def_at KX G ?a ?l ?c ?k (fun _ _ _ _ _ _ us hl => match us, hl with | [_, _], _ => rfl)
      (case a => k_is); (case l => k_is); (case c => k_is); (case k => k_is)
    case D_grid =>
      refine' Dn.def_at KX G ?a ?l ?c ?k (fun _ _ _ _ _ _ us hl => match us, hl with | [_, _], _ => rfl)
      (case a => k_is); (case l => k_is); (case c => k_is); (case k => k_is)
    case D_shares =>
      refine' Dn.def_at KX G ?a ?l ?c ?k (fun _ _ _ _ _ _ us hl => match us, hl with | [_, _], _ => rfl)
      (case a => k_is); (case l => k_is); (case c => k_is); (case k => k_is)
    case D_round_grids =>
      refine' Dn.def_at KX G ?a ?l ?c ?k (fun _ _ _ _ _ _ us hl => match us, hl with | [_], _ => rfl)
      (case a => k_is); (case l => k_is); (case c => k_is); (case k => k_is)
    case D_multiple =>
      refine' Dn.def_at KX G ?a ?l ?c ?k (fun _ _ _ _ _ _ us hl => match us, hl with | [_, _, _], _ => rfl)
      (case a => k_is); (case l => k_is); (case c => k_is); (case k => k_is)
    case D_rings_made =>
      refine' Dn.def_at KX G ?a ?l ?c ?k (fun _ _ _ _ _ _ us hl => match us, hl with | [_, _], _ => rfl)
      (case a => k_is); (case l => k_is); (case c => k_is); (case k => k_is)
    case D_numbers =>
      refine' Dn.def_at KX G ?a ?l ?c ?k (fun _ _ _ _ _ _ us hl => match us, hl with | [_], _ => rfl)
      (case a => k_is); (case l => k_is); (case c => k_is); (case k => k_is)
    case D_count_rounds =>
      refine' Dn.def_at KX G ?a ?l ?c ?k (fun _ _ _ _ _ _ us hl => match us, hl with | [_], _ => rfl)
      (case a => k_is); (case l => k_is); (case c => k_is); (case k => k_is)
    case D__law_taken =>
      refine' Dn.def_at KX G ?a ?l ?c ?k (fun _ _ _ _ _ _ us hl => match us, hl with | [_, _], _ => rfl)
      (case a => k_is); (case l => k_is); (case c => k_is); (case k => k_is)
    case D__law_pick =>
      refine' Dn.def_at KX G ?a ?l ?c ?k (fun _ _ _ _ _ _ us hl => match us, hl with | [_, _], _ => rfl)
      (case a => k_is); (case l => k_is); (case c => k_is); (case k => k_is)
    case D__law_alike =>
      refine' Dn.def_at KX G ?a ?l ?c ?k (fun _ _ _ _ _ _ us hl => match us, hl with | [_, _], _ => rfl)
      (case a => k_is); (case l => k_is); (case c => k_is); (case k => k_is)
    case D__law_led =>
      refine' Dn.def_at KX G ?a ?l ?c ?k (fun _ _ _ _ _ _ us hl => match us, hl with | [_, _, _], _ => rfl)
      (case a => k_is); (case l => k_is); (case c => k_is); (case k => k_is)
    case D__law_row =>
      refine' Dn.def_at KX G ?a ?l ?c ?k (fun _ _ _ _ _ _ us hl => match us, hl with | [_, _], _ => rfl)
      (case a => k_is); (case l => k_is); (case c => k_is); (case k => k_is)
    case D__law_choose =>
      refine' Dn.def_at KX G ?a ?l ?c ?k (fun _ _ _ _ _ _ us hl => match us, hl with | [_, _], _ => rfl)
      (case a => k_is); (case l => k_is); (case c => k_is); (case k => k_is)
    case D__law_divisor2 =>
      refine' Dn.def_at KX G ?a ?l ?c ?k (fun _ _ _ _ _ _ us hl => match us, hl with | [_, _], _ => rfl)
      (case a => k_is); (case l => k_is); (case c => k_is); (case k => k_is)
    case D__law_shares2 =>
      refine' Dn.def_at KX G ?a ?l ?c ?k (fun _ _ _ _ _ _ us hl => match us, hl with | [_, _], _ => rfl)
      (case a => k_is); (case l => k_is); (case c => k_is); (case k => k_is)
    case D__law_bad =>
      refine' Dn.def_at KX G ?a ?l ?c ?k (fun _ _ _ _ _ _ us hl => match us, hl with | [_], _ => rfl)
      (case a => k_is); (case l => k_is); (case c => k_is); (case k => k_is)
    case x_BadCrossing =>
      refine' Dn.exc_at KX G rfl ?ea ?ei ?ek ?eb ?et ?em ?es
      (case ea => k_is); (case ei => k_exc); (case ek => k_is); (case eb => k_is); (case et => k_is); (case em => k_is); (case es => k_is)
    case x_BadNumber =>
      refine' Dn.exc_at KX G rfl ?ea ?ei ?ek ?eb ?et ?em ?es
      (case ea => k_is); (case ei => k_exc); (case ek => k_is); (case eb => k_is); (case et => k_is); (case em => k_is); (case es => k_is)

