import PyProof.Rows.All
import Wide.All
import OpenK.AllK
import Wide.FinOn
import HandS.ForMost
import HandS.Flow
import HandS.Style
import HandS.StrMore
import HandS.IsInst
import HandS.Zip
import HandS.Conv
import HandS.Walk
import PyProof.Rows.StrRev
import HandS.Star
import HandS.TryOnly
import KE.GoesNew
import KE.GoesMore
import HandS.SetBool
import HandS.Strs
import KE.GoesComp
import HandS.More
import HandS.TupAny
import PyProof.StrBlock2
import PyProof.Rows.StrCountLaw
import PyProof.DictTable
import HandS.Exc
import HandS.TryMany
import HandS.ExcInit
import HandS.ExcField
import HandS.HotCalls
import HandS.Lambda
import KE.GoesEnum
import KE.DataMinMax
import HandS.WordsExc
import HandS.ClsMeth
import HandS.DictComp
import HandS.EndTab
import KE.KNestM
import PySem.Challenge.RW_threadmark_k25_values_of_words
set_option Elab.async false
set_option linter.all false
set_option maxRecDepth 100000
/-! The part that every law of this program shares: heaps, the bag, a few rules. -/
namespace Tm
open PySem PySem.Spec PyProof.Rows L2

/-! ### heaps: all but the object at b is as it was -/
def Kp (b : Addr) (H H' : Hp) : Prop := ∀ p o, p ≠ b → H p = some o → H' p = some o
theorem Kp.refl (b : Addr) (H : Hp) : Kp b H H := fun _ _ _ h => h
theorem Kp.trans {b : Addr} {H H1 H2 : Hp} (x : Kp b H H1) (y : Kp b H1 H2) : Kp b H H2 := fun p o n h => y p o n (x p o n h)
theorem Kp.of_same {b : Addr} {H H' : Hp} (s : Same H H') : Kp b H H' := fun p o _ h => s p o h
theorem Kp.set {b : Addr} {H : Hp} {o : HO} : Kp b H (upd H b o) := fun p u n h => by rw [upd_ne n]; exact h
theorem Kp.new {b q : Addr} {H : Hp} {o : HO} (h : H q = none) : Kp b H (upd H q o) := fun p u _ e => by
  rw [upd_ne (ne_of_none e h)]; exact e
/-- a store to an object that was not there at the start -/
theorem Kp.put {b q : Addr} {H H' : Hp} {o : HO} (k : Kp b H H') (h : H q = none) : Kp b H (upd H' q o) := fun p u n e => by
  rw [upd_ne (ne_of_none e h)]; exact k p u n e
theorem same_upd {H : Hp} {p : Addr} {o : HO} (h : H p = none) : Same H (upd H p o) := fun b x e => by
  rw [upd_ne (ne_of_none e h)]; exact e
theorem same_put {q : Addr} {H H' : Hp} {o : HO} (k : Same H H') (h : H q = none) : Same H (upd H' q o) := fun p u e => by
  rw [upd_ne (ne_of_none e h)]; exact k p u e
theorem Kp.free {b : Addr} {H H' : Hp} (e : Kp b H H') {l : Addr} (hb : ∃ o, H' b = some o) (h : H' l = none) : H l = none := by
  obtain ⟨o, hb⟩ := hb
  have n : l ≠ b := fun z => by rw [z, hb] at h; cases h
  cases q : H l with
  | none => rfl
  | some o => rw [e l o n q] at h; cases h
theorem Kp.seq {K : PySem.W.Frag} {b : Addr} {H H' : Hp} {a : Addr} {xs : List V} (e : Kp b H H') (n : a ≠ b) (h : SqL K H a xs) : SqL K H' a xs :=
  h.imp (fun seen => seen.imp (e a _ n) (fun ⟨ob, at_a⟩ => ⟨ob, e a _ n at_a⟩)) id

/-! ### the bag of the draws -/
def Bag (H : Hp) (b l : Addr) : Prop := ∃ (xs : List Int) (i n s : Int), H b = some (.lst [.ref l, .int i, .int n, .int s]) ∧ H l = some (.lst (xs.map V.int)) ∧ 0 ≤ i ∧ 0 ≤ n ∧ 0 ≤ s ∧ s < 2147483549
theorem bag_ne {H : Hp} {b l : Addr} {xs : List Int} {u v w : V} {a : Addr} (h : H b = some (.lst [.ref a, u, v, w])) (hl : H l = some (.lst (xs.map V.int))) : l ≠ b := ne_of hl h (by
  intro e
  have e2 := HO.lst.inj e
  cases xs with
  | nil => cases e2
  | cons x r => cases e2)
theorem Bag.hb {H : Hp} {b l : Addr} (B : Bag H b l) : ∃ o, H b = some o := by
  obtain ⟨xs, i, n, s, h, _⟩ := B
  exact ⟨_, h⟩
theorem Bag.hl {H : Hp} {b l : Addr} (B : Bag H b l) : ∃ o, H l = some o := by
  obtain ⟨xs, i, n, s, _, h, _⟩ := B
  exact ⟨_, h⟩
theorem Bag.nb {H : Hp} {b l q : Addr} (B : Bag H b l) (h : H q = none) : q ≠ b := fun e => by
  obtain ⟨o, hb⟩ := B.hb
  rw [e, hb] at h; cases h
theorem Bag.nl {H : Hp} {b l q : Addr} (B : Bag H b l) (h : H q = none) : q ≠ l := fun e => by
  obtain ⟨o, hb⟩ := B.hl
  rw [e, hb] at h; cases h
/-- a store elsewhere -/
theorem Bag.put {H : Hp} {b l q : Addr} {o : HO} (B : Bag H b l) (n1 : q ≠ b) (n2 : q ≠ l) : Bag (upd H q o) b l := by
  obtain ⟨xs, i, n, s, hb, hl, r⟩ := B
  exact ⟨xs, i, n, s, by rw [upd_ne n1.symm]; exact hb, by rw [upd_ne n2.symm]; exact hl, r⟩
theorem Bag.new {H : Hp} {b l q : Addr} {o : HO} (B : Bag H b l) (h : H q = none) : Bag (upd H q o) b l := B.put (B.nb h) (B.nl h)
theorem Bag.same {H H' : Hp} {b l : Addr} (B : Bag H b l) (k : Same H H') : Bag H' b l := by
  obtain ⟨xs, i, n, s, hb, hl, r⟩ := B
  exact ⟨xs, i, n, s, k _ _ hb, k _ _ hl, r⟩

/-! ### list(text) -/
def sig (c : Nat) : V := .str ⟨#[c]⟩
/-- two lists, place by place -/
theorem placewise {α β : Type} {R : α → β → Prop} : ∀ (as : List α) (bs : List β), as.length = bs.length → (∀ (j : Nat) (a : α) (b : β), as[j]? = some a → bs[j]? = some b → R a b) → Paired R as bs
  | [], [], _, _ => .nil
  | a :: as, b :: bs, hl, h => .cons (h 0 a b rfl rfl) (placewise as bs (Nat.succ.inj hl) fun j x y hx hy => h (j + 1) x y hx hy)
/-- the cells that the machine drew out of a text are its signs -/
theorem signs_drawn (z : Str) (cells : Array Value) (drawn : ItemsOf (SignAt z) cells z.cps.size) : Vals (z.cps.toList.map sig) cells.toList := by
  apply placewise
  · simp [drawn.1]
  · intro j v u hv hu
    rw [Array.getElem?_toList] at hu
    rcases drawn.2 j u hu with ⟨code, tok, there, rfl⟩
    have same : v = sig code := by
      rw [List.getElem?_map, Array.getElem?_toList, there] at hv
      exact (Option.some.inj hv).symm
    rw [same]
    exact ⟨tok, rfl⟩
theorem call_listS {X : Cx} (calm : X.calm = true) : CallR X (.type "list") (fun given H Q => ∃ z : Str, given = [.str z] ∧ z.length ≤ sizeLine ∧ ∀ l, H l = none → Q (.ref l) (upd H l (.lst (z.cps.toList.map sig)))) :=
  fun pins s σ H given held Q inv rel ask => by
    rcases ask with ⟨z, rfl, short, hand⟩
    match held, rel with
    | [_], .cons ⟨tok, rfl⟩ .nil =>
      apply PySem.call_list_str (inv.ok.hd calm) z tok (hn := short)
      intro heap toks cells ver kept made drawn
      have long : (z.cps.toList.map sig).length ≤ sizeLine := by
        rw [List.length_map, Array.length_toList]
        exact short
      have stands : Inv X pins σ (upd H s.heap.objs.size (.lst (z.cps.toList.map sig))) { s with heap := heap, toks := toks } :=
        inv.laid kept (Nat.le_refl _) ⟨long, cells.toList, ver, signs_drawn z cells drawn, made⟩
      exact ⟨V.ref s.heap.objs.size, _, stands, rfl, hand _ (inv.hok.fresh (Nat.le_refl _))⟩

/-! ### small things -/
theorem cut {t1 t2 : TS} {D : Ends} {σ : L2.St} {H : Hp} (Pv : L2.St → Hp → Prop) (h2 : ∀ σ' H', Pv σ' H' → t2 D σ' H') (h1 : ∀ N : L2.St → Hp → Prop, (∀ σ' H', Pv σ' H' → N σ' H') → t1 { D with nx := N } σ H) : tSeq t1 t2 D σ H := h1 _ h2
theorem cut_ints (ns : List Int) (lo hi : Option Int) : ∃ ms : List Int, cutV (ns.map V.int) lo hi = ms.map V.int := by
  unfold cutV
  rw [← List.map_drop, ← List.map_take]
  exact ⟨_, rfl⟩
theorem cut_int {ns : List Int} {lo hi : Option Int} {i : Nat} {y : V} (h : (cutV (ns.map V.int) lo hi)[i]? = some y) : ∃ u, y = V.int u := by
  obtain ⟨ms, e⟩ := cut_ints ns lo hi
  rw [e, List.getElem?_map] at h
  cases e2 : ms[i]? with
  | none => rw [e2] at h; cases h
  | some u => rw [e2] at h; exact ⟨u, (Option.some.inj h).symm⟩

/-! ### what the helpers promise -/
def spBag (K : PySem.W.Frag) : Sp := fun vs H Q _ => ∃ (a : Addr) (ns : List Int), vs = [.ref a] ∧ SqL K H a (ns.map V.int) ∧ ∀ H' b l, Same H H' → H b = none → H l = none → Bag H' b l → Q (.ref b) H'
def spPull : Sp := fun vs H Q _ => ∃ (b l : Addr) (m : Int), vs = [.ref b, .int m] ∧ Bag H b l ∧ 0 < m ∧ m < 1073741824 ∧ ∀ H' (d : Int), Kp b H H' → Bag H' b l → 0 ≤ d → d < m → Q (.int d) H'

/-! ### equal data -/
inductive Eqv (H : Hp) : Nat → V → V → Prop where
  | non (n : Nat) : Eqv H n .non .non
  | bl (n : Nat) (b : Bool) : Eqv H n (.bl b) (.bl b)
  | int (n : Nat) (i : Int) : Eqv H n (.int i) (.int i)
  | str (n : Nat) (z : Str) : Eqv H n (.str z) (.str z)
  | lst {n : Nat} {p q : Addr} {xs ys : List V} (hp : H p = some (.lst xs)) (hq : H q = some (.lst ys)) (hl : xs.length = ys.length) (hz : xs.length ≤ 10000) (h : ∀ (i : Nat) (x y : V), xs[i]? = some x → ys[i]? = some y → Eqv H n x y) : Eqv H (n + 1) (.ref p) (.ref q)
  | tup {n : Nat} {p q : Addr} {xs ys : List V} (hp : H p = some (.tup xs)) (hq : H q = some (.tup ys)) (hl : xs.length = ys.length) (hz : xs.length ≤ 10000) (h : ∀ (i : Nat) (x y : V), xs[i]? = some x → ys[i]? = some y → Eqv H n x y) : Eqv H (n + 1) (.ref p) (.ref q)
theorem Eqv.same {H H' : Hp} (s : Same H H') {n : Nat} {x y : V} (e : Eqv H n x y) : Eqv H' n x y := by
  induction e with
  | non n => exact .non n
  | bl n b => exact .bl n b
  | int n i => exact .int n i
  | str n z => exact .str n z
  | lst hp hq hl hz h ih => exact .lst (s _ _ hp) (s _ _ hq) hl hz ih
  | tup hp hq hl hz h ih => exact .tup (s _ _ hp) (s _ _ hq) hl hz ih
def spSame (n : Nat) : Sp := fun vs H Q _ => ∃ (x y : V), vs = [x, y] ∧ Eqv H n x y ∧ ∀ H', Same H H' → Q (.bl true) H'
/-- the type of a flat value -/
theorem kit_list {K : PySem.W.Frag} {a : String} {r : Bool} (h : kitB a "list" = some r) (h2 : r = false → kitB a "tuple" = some false) : PySem.W.kitAny K (.type a) [.type "list", .type "tuple"] = some r := by
  refine kitAny_cons (kit_ty h) (fun e => ?_) (fun e => e)
  subst e
  exact kitAny_cons (kit_ty (h2 rfl)) (fun _ => kitAny_nil) (fun e => by cases e)
theorem kit_tup {K : PySem.W.Frag} : PySem.W.kitAny K (.type "tuple") [.type "list", .type "tuple"] = some true :=
  kitAny_cons (b := false) (kit_ty (by decide +kernel)) (fun _ => kitAny_cons (b := true) (kit_ty (by decide +kernel)) (fun e => by cases e) (fun _ => rfl)) (fun e => by cases e)
/-- zip of two tuples, walked to the end of the shorter -/
theorem zip_tuples {K : PySem.W.Frag} {a b : Addr} {xs ys : List V} (hl : xs.length = ys.length) : Walk (RZ.ItzT K a b) xs.length (fun H => SqT K H a xs ∧ SqT K H b ys) (YPair (fun i => xs[i]?) (fun i => ys[i]?)) where
  goes := fun i H lt both => ⟨xs, ys, xs[i], ys[i]'(by omega), both.1, both.2, List.getElem?_eq_getElem lt, List.getElem?_eq_getElem (by omega)⟩
  stops := fun H both => ⟨xs, ys, both.1, both.2, .inl (Nat.le_refl _)⟩
  yields := fun i H v H' _ both ⟨T, x, y, e, new, after, at_x, at_y⟩ => ⟨T, x, y, e, new, after, at_x xs both.1, at_y ys both.2⟩
def spOf (K : PySem.W.Frag) : Sp := fun vs H Q _ => ∃ (b l : Addr) (t : V) (xs : List V), vs = [.ref b, t] ∧ Bag H b l ∧
  ((∃ a, t = .ref a ∧ a ≠ b ∧ SqL K H a xs) ∨ (∃ z : Str, t = .str z ∧ z.length ≤ sizeLine ∧ xs = z.cps.toList.map sig)) ∧ 0 < xs.length ∧ xs.length < 1073741824 ∧ ∀ H' x, Kp b H H' → Bag H' b l → x ∈ xs → Q x H'
def spMixed (K : PySem.W.Frag) : Sp := fun vs H Q _ => ∃ (b l a : Addr) (xs : List V), vs = [.ref b, .ref a] ∧ Bag H b l ∧ a ≠ b ∧ SqL K H a xs ∧ xs.length ≤ 1000 ∧
  ∀ H' p ys, Kp b H H' → Bag H' b l → H p = none → H' p = some (.lst ys) → ys.Perm xs → Q (.ref p) H'
theorem erasePm {α : Type} : ∀ (l : List α) (i : Nat) (h : i < l.length), (l[i] :: l.eraseIdx i).Perm l
  | [], i, h => absurd h (Nat.not_lt_zero _)
  | x :: r, 0, h => .refl _
  | x :: r, i + 1, h => by
    have hr : i < r.length := Nat.lt_of_succ_lt_succ h
    show (r[i] :: x :: r.eraseIdx i).Perm (x :: r)
    exact (List.Perm.swap x _ _).trans ((erasePm r i hr).cons x)
theorem ifF {c : Bool} {A B : Prop} (h : c = false) (hb : B) : if c = true then A else B := by rw [h]; exact iteF hb
theorem ifT {c : Bool} {A B : Prop} (h : c = true) (ha : A) : if c = true then A else B := by rw [h]; exact iteT ha




/-! ### texts as lists of signs -/
def txt (cs : List Nat) : Str := ⟨cs.toArray⟩
theorem txt_len (cs : List Nat) : (txt cs).length = cs.length := by show cs.toArray.size = _; simp
theorem txt_cps (cs : List Nat) : (txt cs).cps.toList = cs := by show cs.toArray.toList = _; simp
theorem txt_of (z : Str) : txt z.cps.toList = z := by show (⟨z.cps.toList.toArray⟩ : Str) = z; simp
theorem txt_app (a b : List Nat) : txt a ++ txt b = txt (a ++ b) := by
  show (⟨a.toArray ++ b.toArray⟩ : Str) = ⟨(a ++ b).toArray⟩
  simp
theorem txt_inj {a b : List Nat} (h : txt a = txt b) : a = b := by rw [← txt_cps a, ← txt_cps b, h]
theorem txt_minus : Str.ofString "-" = txt [45] := by decide +kernel
theorem txt_empty : Str.ofString "" = txt [] := by decide +kernel
theorem sig_txt (c : Nat) : sig c = .str (txt [c]) := rfl
def lettersL : List Nat → List Nat
  | [] => []
  | c :: r => if c = 45 then r else c :: r
def signL : List Nat → Nat
  | [] => 0
  | c :: r => if c = 45 then 1 else 0
def signedL (t : Int) (cs : List Nat) : List Nat := if t % 2 = 1 then 45 :: cs else cs
theorem letters_len (ts : List Nat) : (lettersL ts).length + signL ts = ts.length := by
  cases ts with
  | nil => rfl
  | cons c r =>
    show (if c = 45 then r else c :: r).length + (if c = 45 then 1 else 0) = r.length + 1
    by_cases h : c = 45
    · rw [if_pos h, if_pos h]
    · rw [if_neg h, if_neg h, List.length_cons]
theorem remove_minus (ts : List Nat) : Txt.removeprefix (txt ts) (Str.ofString "-") = txt (lettersL ts) := by
  rw [txt_minus]
  unfold Txt.removeprefix
  cases ts with
  | nil => rfl
  | cons c r =>
    have e : Builtin.Str.subAt (txt (c :: r)) (txt [45]) 0 = decide (c = 45) := by
      unfold Builtin.Str.subAt
      show ((c :: r).toArray.extract 0 (0 + 1) == #[45]) = _
      have e2 : (c :: r).toArray.extract 0 (0 + 1) = #[c] := by simp
      rw [e2]
      by_cases h : c = 45
      · subst h; rfl
      · rw [decide_eq_false h]
        simp [h]
    rw [e]
    show _ = txt (if c = 45 then r else c :: r)
    by_cases h : c = 45
    · rw [decide_eq_true h, if_pos rfl, if_pos h]
      unfold Txt.affix
      have e3 : ((txt (c :: r)).length - (txt [45]).length == (txt (c :: r)).length) = false := by
        rw [txt_len, txt_len]
        simp
      show (if ((txt (c :: r)).length - (txt [45]).length == (txt (c :: r)).length) = true then _ else _) = _
      rw [e3, if_neg Bool.false_ne_true]
      show (⟨(c :: r).toArray.extract 1 (c :: r).toArray.size⟩ : Str) = ⟨r.toArray⟩
      simp
    · rw [decide_eq_false h, if_neg Bool.false_ne_true, if_neg h]
      rfl
theorem join_txt : ∀ (xs : List (List Nat)), Txt.join (Str.ofString "") (xs.map txt) = txt xs.flatten := by
  intro xs
  show Builtin.Str.glued _ _ = _
  rw [StrLaws.glued_eq_join, txt_empty]
  induction xs with
  | nil => rfl
  | cons x r ih =>
    cases r with
    | nil => show txt x = txt (x ++ []); rw [List.append_nil]
    | cons y r =>
      show txt x ++ txt [] ++ Str.join (txt []) ((y :: r).map txt) = _
      rw [ih, txt_app, txt_app, List.append_nil]
      rfl
theorem flat_ones (cs : List Nat) : (cs.map fun c => [c]).flatten = cs := by
  induction cs with
  | nil => rfl
  | cons c r ih => show c :: (r.map fun c => [c]).flatten = _; rw [ih]
theorem join_sigs (cs : List Nat) : Txt.join (Str.ofString "") (cs.map fun c => txt [c]) = txt cs := by
  have e : (cs.map fun c => txt [c]) = (cs.map fun c => [c]).map txt := by rw [List.map_map]; rfl
  rw [e, join_txt, flat_ones]
theorem len_ones (cs : List Nat) : ((cs.map fun c => txt [c]).map (·.length)).sum = cs.length := by
  induction cs with
  | nil => rfl
  | cons c r ih =>
    show (txt [c]).length + ((r.map fun c => txt [c]).map (·.length)).sum = _
    rw [ih, txt_len, List.length_cons]
    simp [Nat.add_comm]
/-- a word: its sign, its letters (none is the sign) -/
def wd (s : Bool) (cs : List Nat) : List Nat := if s then 45 :: cs else cs
def Lt (cs : List Nat) : Prop := ∀ c ∈ cs, c ≠ 45
theorem letters_wd {s : Bool} {cs : List Nat} (h : Lt cs) : lettersL (wd s cs) = cs := by
  cases s with
  | true => rfl
  | false =>
    cases cs with
    | nil => rfl
    | cons c r =>
      show (if c = 45 then r else c :: r) = c :: r
      rw [if_neg (h c List.mem_cons_self)]
theorem sign_wd {s : Bool} {cs : List Nat} (h : Lt cs) : signL (wd s cs) = s.toNat := by
  cases s with
  | true => rfl
  | false =>
    cases cs with
    | nil => rfl
    | cons c r =>
      show (if c = 45 then 1 else 0) = 0
      rw [if_neg (h c List.mem_cons_self)]
theorem signed_wd (t : Int) (cs : List Nat) : signedL t cs = wd (decide (t % 2 = 1)) cs := by
  unfold signedL wd
  by_cases h : t % 2 = 1
  · rw [if_pos h, decide_eq_true h]; rfl
  · rw [if_neg h, decide_eq_false h]; rfl
theorem wd_len (s : Bool) (cs : List Nat) : (wd s cs).length = cs.length + s.toNat := by cases s <;> rfl
def spLetters : Sp := fun vs H Q _ => ∃ ts : List Nat, vs = [.str (txt ts)] ∧ ts.length ≤ sizeLine ∧ Q (.str (txt (lettersL ts))) H
def spSignOf : Sp := fun vs H Q _ => ∃ ts : List Nat, vs = [.str (txt ts)] ∧ ts.length ≤ sizeLine ∧ Q (.int (signL ts)) H
def spSigned : Sp := fun vs H Q _ => ∃ (t : Int) (cs : List Nat), vs = [.int t, .str (txt cs)] ∧ cs.length < sizeLine ∧ Q (.str (txt (signedL t cs))) H

/-! ### cancelling -/
def stp (rs : List Nat) (c : Nat) : List Nat := match rs with
  | [] => [c]
  | d :: r => if d = c then r else c :: d :: r
def noAdj : List Nat → Prop
  | a :: b :: r => a ≠ b ∧ noAdj (b :: r)
  | _ => True
theorem noAdj.tail {a : Nat} {r : List Nat} (h : noAdj (a :: r)) : noAdj r := by
  cases r with
  | nil => trivial
  | cons b r => exact h.2
theorem stp_noAdj {rs : List Nat} (c : Nat) (h : noAdj rs) : noAdj (stp rs c) := by
  cases rs with
  | nil => trivial
  | cons d r =>
    unfold stp
    dsimp only
    by_cases e : d = c
    · rw [if_pos e]; exact h.tail
    · rw [if_neg e]; exact ⟨fun z => e z.symm, h⟩
theorem stp_stp {rs : List Nat} (c : Nat) (h : noAdj rs) : stp (stp rs c) c = rs := by
  cases rs with
  | nil => show (if c = c then [] else _) = _; rw [if_pos rfl]
  | cons d r =>
    by_cases e : d = c
    · subst e
      have e1 : stp (d :: r) d = r := if_pos rfl
      rw [e1]
      cases r with
      | nil => rfl
      | cons b r =>
        show (if b = d then r else d :: b :: r) = _
        rw [if_neg (fun z => h.1 z.symm)]
    · have e1 : stp (d :: r) c = c :: d :: r := if_neg e
      rw [e1]
      show (if c = c then d :: r else _) = _
      rw [if_pos rfl]
def redR (cs : List Nat) : List Nat := cs.foldl stp []
def redL (cs : List Nat) : List Nat := (redR cs).reverse
theorem fold_noAdj : ∀ (cs rs : List Nat), noAdj rs → noAdj (cs.foldl stp rs)
  | [], _, h => h
  | c :: r, rs, h => fold_noAdj r (stp rs c) (stp_noAdj c h)
theorem redR_snoc (cs : List Nat) (c : Nat) : redR (cs ++ [c]) = stp (redR cs) c := by
  unfold redR
  rw [List.foldl_append]
  rfl
theorem red_cancel (a b : List Nat) (c : Nat) : redL (a ++ c :: c :: b) = redL (a ++ b) := by
  unfold redL redR
  rw [List.foldl_append, List.foldl_append]
  show (b.foldl stp (stp (stp (a.foldl stp []) c) c)).reverse = _
  rw [stp_stp c (fold_noAdj a [] trivial)]
theorem stp_mem {rs : List Nat} {c x : Nat} (h : x ∈ stp rs c) : x = c ∨ x ∈ rs := by
  cases rs with
  | nil => exact .inl (List.mem_singleton.mp h)
  | cons d r =>
    by_cases e : d = c
    · have e1 : stp (d :: r) c = r := if_pos e
      rw [e1] at h
      exact .inr (List.mem_cons_of_mem _ h)
    · have e1 : stp (d :: r) c = c :: d :: r := if_neg e
      rw [e1] at h
      exact (List.mem_cons.mp h)
theorem stp_len (rs : List Nat) (c : Nat) : (stp rs c).length ≤ rs.length + 1 := by
  cases rs with
  | nil => exact Nat.le_refl _
  | cons d r =>
    by_cases e : d = c
    · have e1 : stp (d :: r) c = r := if_pos e
      rw [e1, List.length_cons]; omega
    · have e1 : stp (d :: r) c = c :: d :: r := if_neg e
      rw [e1]; exact Nat.le_refl _
def still (cs : List Nat) : Prop := ∀ (i : Nat) (a b : Nat), cs[i]? = some a → cs[i + 1]? = some b → a ≠ b
theorem redR_take {cs : List Nat} (h : still cs) : ∀ k, k ≤ cs.length → redR (cs.take k) = (cs.take k).reverse
  | 0, _ => rfl
  | k + 1, hk => by
    have hk1 : k < cs.length := hk
    rw [List.take_succ_eq_append_getElem hk1, redR_snoc, redR_take h k (by omega), List.reverse_append]
    cases k with
    | zero => rfl
    | succ j =>
      have hj : j < cs.length := by omega
      rw [List.take_succ_eq_append_getElem hj, List.reverse_append]
      show (if cs[j] = cs[j + 1] then _ else cs[j + 1] :: cs[j] :: (cs.take j).reverse) = cs[j + 1] :: cs[j] :: (cs.take j).reverse
      rw [if_neg (h j _ _ (List.getElem?_eq_getElem hj) (List.getElem?_eq_getElem hk1))]
theorem red_still {cs : List Nat} (h : still cs) : redL cs = cs := by
  have e := redR_take h cs.length (Nat.le_refl _)
  rw [List.take_length] at e
  unfold redL
  rw [e, List.reverse_reverse]
theorem redR_len (cs : List Nat) : (redR cs).length ≤ cs.length := by
  have : ∀ (cs rs : List Nat), (cs.foldl stp rs).length ≤ rs.length + cs.length := by
    intro cs
    induction cs with
    | nil => intro rs; exact Nat.le_refl _
    | cons c r ih =>
      intro rs
      have h1 := ih (stp rs c)
      have h2 := stp_len rs c
      show (r.foldl stp (stp rs c)).length ≤ rs.length + (r.length + 1)
      omega
  have h := this cs []
  rw [List.length_nil, Nat.zero_add] at h
  exact h
def spReduced : Sp := fun vs H Q _ => ∃ ts : List Nat, vs = [.str (txt ts)] ∧ ts.length ≤ 1000 ∧ ∀ H', Same H H' → Q (.str (txt (signedL (signL ts) (redL (lettersL ts))))) H'

/-! ### slices of texts; lists of ints as data -/
theorem cutS_take (cs : List Nat) (k : Nat) : cutS (txt cs) none (some (k : Int)) = txt (cs.take k) := by
  unfold cutS
  rw [txt_cps, HT.sIx_none, HT.sIx_nat, txt_len]
  show txt _ = txt _
  congr 1
  rw [List.drop_zero, Nat.sub_zero]
  by_cases h : k ≤ cs.length
  · rw [Nat.min_eq_left h]
  · rw [Nat.min_eq_right (by omega), List.take_length, List.take_of_length_le (by omega)]
theorem cutS_drop (cs : List Nat) (k : Nat) : cutS (txt cs) (some (k : Int)) none = txt (cs.drop k) := by
  unfold cutS
  rw [txt_cps, HT.sIx_none, HT.sIx_nat, txt_len]
  show txt _ = txt _
  congr 1
  by_cases h : k ≤ cs.length
  · rw [Nat.min_eq_left h]
    exact List.take_of_length_le (by rw [List.length_drop]; exact Nat.le_refl _)
  · rw [Nat.min_eq_right (by omega), List.drop_of_length_le (Nat.le_refl _), List.drop_of_length_le (l := cs) (by omega)]
    exact List.take_nil
theorem cutV_take (xs : List V) (k : Nat) : cutV xs none (some (k : Int)) = xs.take k := by
  unfold cutV
  rw [HT.sIx_none, HT.sIx_nat, List.drop_zero, Nat.sub_zero]
  by_cases h : k ≤ xs.length
  · rw [Nat.min_eq_left h]
  · rw [Nat.min_eq_right (by omega), List.take_length, List.take_of_length_le (by omega)]
theorem dp_ints {K : PySem.W.Frag} {H : Hp} : ∀ ns : List Int, DpAll K H (ns.map V.int) (ns.map PyData.int)
  | [] => .nil
  | n :: r => .cons (.int n) (dp_ints r)
theorem shaped_ints' (ns : List Int) : SeqAt.shaped (.list (ns.map PyData.int)) = true := PySem.W.ke_shaped_ints ns
theorem signed_wd0 {s : Bool} (cs : List Nat) : signedL ((s.toNat : Nat) : Int) cs = wd s cs := by cases s <;> rfl
def spLSigned : Sp := spSigned
def spLets : Sp := fun vs H Q _ => vs = [] ∧ Q (.str (Str.ofString "abcdefghijklmnopqrstuvwx")) H
def alpha : List Nat := [97, 98, 99, 100, 101, 102, 103, 104, 105, 106, 107, 108, 109, 110, 111, 112, 113, 114, 115, 116, 117, 118, 119, 120]
theorem txt_alpha : Str.ofString "abcdefghijklmnopqrstuvwx" = txt alpha := by decide +kernel
theorem alpha_lt {c : Nat} (h : c ∈ alpha) : c ≠ 45 := by
  intro e
  subst e
  exact absurd h (by decide)
theorem perm_sigs {ys : List V} {cs : List Nat} (h : ys.Perm (cs.map sig)) : ∃ ds : List Nat, ys = ds.map sig ∧ ds.Perm cs := by
  refine ⟨ys.map (fun v => match v with | .str z => z.cps.toList.headD 0 | _ => 0), ?_, ?_⟩
  · rw [List.map_map]
    have : ∀ y ∈ ys, (sig ∘ fun v => match v with | .str z => z.cps.toList.headD 0 | _ => 0) y = y := by
      intro y hy
      obtain ⟨c, _, rfl⟩ := List.mem_map.mp (h.mem_iff.mp hy)
      rfl
    rw [List.map_congr_left this, List.map_id']
  · have h2 := h.map (fun v => match v with | .str z => z.cps.toList.headD 0 | _ => 0)
    rw [List.map_map] at h2
    have e : ((fun v => match v with | V.str z => z.cps.toList.headD 0 | _ => 0) ∘ sig) = id := by funext c; rfl
    rw [e, List.map_id] at h2
    exact h2
def spLaw (K : PySem.W.Frag) : Sp := fun vs H Q _ => ∃ (a : Addr) (ns : List Int), vs = [.ref a] ∧ SqL K H a (ns.map V.int) ∧ ns.length ≤ 63 ∧ ∀ H', Q (.bl true) H'
end Tm

/-! a text backwards -/
namespace Tm
open PySem PySem.Spec PyProof.Rows L2
def tBackS (te : TE) : TE := fun σ H Q => te σ H fun v H1 => ∃ cs : List Nat, v = .str (txt cs) ∧ cs.length ≤ sizeLine ∧ Q (.str (txt cs.reverse)) H1
theorem back_txt (cs : List Nat) (u : Tok) : Txt.sliceBy (txt cs) none none (-1, u) = txt cs.reverse := by
  have same : (Txt.sliceBy (txt cs) none none (-1, u)).cps.toList = cs.reverse := by
    rw [step_rev_list]
    apply List.ext_getElem
    · simp [txt_len]
    · intro j hj hk
      have hj2 : j < cs.length := by simpa using hk
      rw [List.getElem_map, List.getElem_range, List.getElem_reverse, txt_len]
      show cs.toArray.getD (cs.length - 1 - j) 0 = _
      rw [Array.getD_eq_getD_getElem?, List.getElem?_toArray, List.getElem?_eq_getElem (by omega)]
      rfl
  rw [← txt_of (Txt.sliceBy (txt cs) none none (-1, u)), same]
theorem text_stays (e : Expr) (z : Str) (t : Tok) (r : Value) : letTemporaryGo e (.str z t) r = pure () := by cases e <;> rfl
theorem pe_back {X : Cx} {e : Expr} {te : TE} {k : Nat} {p1 p2 p3 pos : Pos} (he : PE X e te) :
    PE X (.Subscript e (.Slice none none (some (.UnaryOp .USub (.Constant (.int 1) k p1) p2)) p3) pos) (tBackS te) where
  run pins s σ H Q inv ask := by
    have minus : PE X (.UnaryOp .USub (.Constant (.int 1) k p1) p2) _ := pe_un un_neg pe_int
    apply PyProof.Rows.Subscript_
    apply wpAny_mono (he.run pins s σ H _ inv ask) _ (fun _ _ raised => raised)
    rintro v s1 ⟨x, H1, inv1, rel, cs, rfl, short, hand⟩
    rcases rel with ⟨tok, rfl⟩
    apply wpAny_Slice
    rw [evalPart_none, evalPart_some]
    apply wpAny_pure
    apply wpAny_pure
    apply wpAny_mono (minus.run pins s1 σ H1 (fun y H2 => y = .int (-1) ∧ H2 = H1) inv1 ?ask) _ (fun _ _ raised => raised)
    case ask => exact ⟨_, rfl, rfl, rfl⟩
    rintro v s2 ⟨y, H2, inv2, rel, rfl, rfl⟩
    rcases rel with ⟨unit, rfl⟩
    apply subscriptTail_builtin (T := "str") (typeIs_str _ _ _) F.slot_str_getitem.lookup (ht := text_stays e _ _)
    apply wpAny_getItem_str_slice (l := none) (u := none) (st := some (-1, unit)) ⟨_, Heap.get?_push_size _ rfl, rfl, rfl⟩ rfl
    apply post_val_or_str
    refine ⟨?_, fun tok2 ct => ⟨.str (txt cs.reverse), H2, ?_, ⟨tok2, ?_⟩, hand⟩⟩
    · exact Nat.le_trans (Txt.sliceBy_le (txt cs) none none (-1, unit) (by show (-1 : Int) ≠ 0; decide)) (by rw [txt_len]; exact short)
    · exact inv2.kept (t' := ct) fun b o there => Heap.get?_push_of_some _ there
    · exact congrArg (fun z => Value.str z tok2) (back_txt cs unit)
end Tm

/-! a call by place of a def that takes a star; products of words -/
namespace Tm
open PySem PySem.Spec PyProof.Rows L2
section
variable {X : Cx} {CX : CXT} {k : Nat} {f : Addr} {sp : Sp} {E : XK} {x : Str} {p pos : Pos}
theorem pe_place {e : Expr} {es : List Expr} {ta : TA} (promise : FnR X.prog X.w X.K X.mg X.base CX k f sp) (room : Room k X.A) (kept : PySem.W.keepIn X.K (.ref f) = true) (glob : Gl X x) (found : X.mg x = some (.ref f)) (pass : Passes CX X E) (args : PA X (e :: es) ta)
    (nodebug : (x == ("__debug__" : Str)) = false := by decide) (first : starEach (e :: es) X.env = (false, eval e X.env) :: starEach es X.env := by rfl) (plain : (backTo pos (starEach es X.env)).any (·.1) = false := by rfl) :
    PE X (.Call (.Name x p) (e :: es) [] pos) (fun σ H Q => ta σ H fun given H1 => sp given H1 Q E) where
  run pins s σ H Q inv ask := by
    apply wpAny_Call_Name_kw
    apply ld_glob inv glob found _ nodebug
    apply PySem.W.callWith_K (h₀ := X.base) inv.ok.mod.kin kept _ first plain
    apply wpAny_mono (args.run pos pins s σ H _ inv ask) _ (fun _ _ raised => raised)
    rintro held s1 ⟨given, H1, inv1, rel, meets⟩
    exact ⟨inv1.kIn, wpAny_call (run_fnR promise room pass inv1 rel meets)⟩
theorem pe_place0 (promise : FnR X.prog X.w X.K X.mg X.base CX k f sp) (room : Room k X.A) (kept : PySem.W.keepIn X.K (.ref f) = true) (glob : Gl X x) (found : X.mg x = some (.ref f)) (pass : Passes CX X E)
    (nodebug : (x == ("__debug__" : Str)) = false := by decide) : PE X (.Call (.Name x p) [] [] pos) (fun _ H Q => sp [] H Q E) where
  run pins s σ H Q inv ask := by
    apply wpAny_Call_Name_kw
    apply ld_glob inv glob found _ nodebug
    apply PySem.W.callWith_K0 inv.kIn kept
    exact wpAny_call (run_fnR (us := []) promise room pass inv .nil ask)
end
def tv (cs : List Nat) : V := .str (txt cs)
/-- the sum of the signs, the letters one behind the other -/
def signsL (xss : List (List Nat)) : Nat := (xss.map signL).sum
def allL (xss : List (List Nat)) : List Nat := (xss.map lettersL).flatten
def joinL (xss : List (List Nat)) : List Nat := signedL (signsL xss : Nat) (allL xss)
def Few (xss : List (List Nat)) : Prop := xss.length ≤ 10 ∧ ∀ x ∈ xss, x.length ≤ 1000
def spProd : Sp := fun vs H Q _ => ∃ xss : List (List Nat), vs = xss.map tv ∧ Few xss ∧ ∀ H', Same H H' → Q (tv (joinL xss)) H'
def spProdT : Sp := fun vs H Q _ => ∃ (p : Addr) (xss : List (List Nat)), vs = [.ref p] ∧ H p = some (.tup (xss.map tv)) ∧ Few xss ∧ ∀ H', Same H H' → Q (tv (joinL xss)) H'
def invL (ts : List Nat) : List Nat := signedL (signL ts) (lettersL ts).reverse
def spInv : Sp := fun vs H Q _ => ∃ ts : List Nat, vs = [.str (txt ts)] ∧ ts.length ≤ 1000 ∧ Q (tv (invL ts)) H
def spLBody : Sp := fun vs H Q _ => ∃ ts : List Nat, vs = [.str (txt ts)] ∧ ts.length ≤ 1000 ∧ Q (.str (txt (lettersL ts))) H
def spJoined (K : PySem.W.Frag) : Sp := fun vs H Q _ => ∃ (p : Addr) (xss : List (List Nat)), vs = [.ref p] ∧ SqL K H p (xss.map tv) ∧ Few xss ∧ ∀ H', Same H H' → Q (tv (joinL xss)) H'
theorem lettersL_le (ts : List Nat) : (lettersL ts).length ≤ ts.length := by have e := letters_len ts; omega
theorem allL_le : ∀ {xss : List (List Nat)} {m : Nat}, (∀ x ∈ xss, x.length ≤ m) → (allL xss).length ≤ xss.length * m
  | [], _, _ => Nat.zero_le _
  | x :: r, m, h => by
    have e1 : (allL (x :: r)).length = (lettersL x).length + (allL r).length := by
      show (lettersL x ++ allL r).length = _
      rw [List.length_append]
    have e2 := allL_le (xss := r) (m := m) fun y hy => h y (List.mem_cons_of_mem _ hy)
    have e3 := h x List.mem_cons_self
    have e4 := lettersL_le x
    rw [e1, List.length_cons, Nat.succ_mul]
    omega
theorem Few.all {xss : List (List Nat)} (h : Few xss) : (allL xss).length ≤ 10000 := by
  have e := allL_le h.2
  have e2 : xss.length * 1000 ≤ 10 * 1000 := Nat.mul_le_mul_right _ h.1
  omega
theorem allL_snoc (xss : List (List Nat)) (x : List Nat) : allL (xss ++ [x]) = allL xss ++ lettersL x := by
  unfold allL
  rw [List.map_append, List.flatten_append]
  simp
theorem signsL_snoc (xss : List (List Nat)) (x : List Nat) : signsL (xss ++ [x]) = signsL xss + signL x := by
  unfold signsL
  rw [List.map_append, List.sum_append]
  simp
theorem sum_int (ns : List Nat) : (ns.map fun n : Nat => (n : Int)).sum = ((ns.sum : Nat) : Int) := by
  induction ns with
  | nil => rfl
  | cons n r ih => rw [List.map_cons, List.sum_cons, List.sum_cons, ih]; omega
theorem lens_txt (xss : List (List Nat)) : ((xss.map txt).map (·.length)).sum = xss.flatten.length := by
  induction xss with
  | nil => rfl
  | cons x r ih => rw [List.map_cons, List.map_cons, List.sum_cons, ih, txt_len, List.flatten_cons, List.length_append]
theorem bit_sign (ts : List Nat) : (if decide (signL ts = 1) = true then (1 : Int) else 0) = ((signL ts : Nat) : Int) := by
  cases ts with
  | nil => rfl
  | cons c r =>
    by_cases h : c = 45
    · rw [show signL (c :: r) = 1 from if_pos h]
      rfl
    · rw [show signL (c :: r) = 0 from if_neg h]
      rfl
theorem lt_rev {cs : List Nat} (h : Lt cs) : Lt cs.reverse := fun c hc => h c (List.mem_reverse.mp hc)
theorem lt_app {as bs : List Nat} (h : Lt as) (h2 : Lt bs) : Lt (as ++ bs) := fun c hc => (List.mem_append.mp hc).elim (h c) (h2 c)
theorem inv_wd {s : Bool} {cs : List Nat} (h : Lt cs) : invL (wd s cs) = wd s cs.reverse := by
  unfold invL
  rw [letters_wd h, sign_wd h, signed_wd0]
theorem inv_inv {s : Bool} {cs : List Nat} (h : Lt cs) : invL (invL (wd s cs)) = wd s cs := by
  rw [inv_wd h, inv_wd (lt_rev h), List.reverse_reverse]
/-- letters and the same backwards cancel, whatever stands around -/
theorem red_back : ∀ (cs as bs : List Nat), redL (as ++ (cs ++ cs.reverse) ++ bs) = redL (as ++ bs)
  | [], as, bs => by simp
  | c :: r, as, bs => by
    have e : as ++ ((c :: r) ++ (c :: r).reverse) ++ bs = (as ++ [c]) ++ (r ++ r.reverse) ++ (c :: bs) := by simp
    have e2 : as ++ [c] ++ (c :: bs) = as ++ c :: c :: bs := by simp
    rw [e, red_back r, e2, red_cancel]
theorem join_back {s : Bool} {cs : List Nat} (h : Lt cs) : joinL [wd s cs, invL (wd s cs)] = cs ++ cs.reverse := by
  have hr := lt_rev h
  have e : signsL [wd s cs, wd s cs.reverse] = s.toNat + s.toNat := by
    show signL (wd s cs) + (signL (wd s cs.reverse) + 0) = _
    rw [sign_wd h, sign_wd hr]
    omega
  have e2 : allL [wd s cs, wd s cs.reverse] = cs ++ cs.reverse := by
    show lettersL (wd s cs) ++ (lettersL (wd s cs.reverse) ++ []) = _
    rw [letters_wd h, letters_wd hr, List.append_nil]
  rw [inv_wd h]
  unfold joinL
  rw [e, e2]
  cases s <;> rfl
theorem red_gone {s : Bool} {cs : List Nat} (h : Lt cs) : signedL (signL (joinL [wd s cs, invL (wd s cs)])) (redL (lettersL (joinL [wd s cs, invL (wd s cs)]))) = [] := by
  have hb : Lt (cs ++ cs.reverse) := lt_app h (lt_rev h)
  have e1 : signL (cs ++ cs.reverse) = 0 := sign_wd (s := false) hb
  have e2 : lettersL (cs ++ cs.reverse) = cs ++ cs.reverse := letters_wd (s := false) hb
  have e3 : redL (cs ++ cs.reverse) = [] := by
    have e := red_back cs [] []
    rw [List.nil_append, List.append_nil] at e
    exact e
  rw [join_back h, e1, e2, e3]
  rfl
end Tm

/-! zip of two texts, walked in pairs -/
namespace Tm
open PySem PySem.Spec PyProof.Rows L2
/-- the pairs of the signs of two texts; each pair is a new tuple -/
def ItzS (cs ds : List Nat) : It :=
  ⟨fun i _ => i < min cs.length ds.length, fun i H x H' => ∃ T c d, x = .ref T ∧ H T = none ∧ H' = upd H T (.tup [sig c, sig d]) ∧ cs[i]? = some c ∧ ds[i]? = some d, fun i _ => i = min cs.length ds.length⟩
def iZipS (ta : TA) : TI := fun σ H R => ta σ H fun vs H1 => ∃ cs ds : List Nat, vs = [.str (txt cs), .str (txt ds)] ∧ R (ItzS cs ds) H1
/-- the cells in which a zip of two texts stands at turn i -/
def zipAt (N : Addr) (x y : Str) (t u : Tok) (i : Nat) (h : Heap) : Prop :=
  IsZip h (N + 4) (N + 2) (N + 3) .none ∧ IsTupOf2 h (N + 2) (.ref N) (.ref (N + 1)) ∧ (∃ a b, IsTupOf2 h (N + 3) a b) ∧ h.IsStrIter N (strIterType x) x t i ∧ h.IsStrIter (N + 1) (strIterType y) y u i
def zipCells (N : Addr) : List Addr := [N + 4, N + 2, N + 3, N, N + 1]
theorem zip_goes {prog : Program} {w : World} {A : Around} (hh : A.handled = none) (elts : List Expr) (k : Nat) (pos : Pos) (N : Addr) (x y : Str) (t u : Tok) :
    GoesN prog w A (.Tuple elts k pos) (N + 4) (zipCells N) [N + 4, N + 3, N, N + 1] (min x.cps.size y.cps.size)
      (fun i h₀ v h => ∃ T a b, v = .ref T ∧ h₀.objs.size ≤ T ∧ SignAt x i a ∧ SignAt y i b ∧ h.IsTuple T #[a, b]) (zipAt N x y t u) :=
  GoesN.zip2 (zip_sep2 (fp1 := []) (fp2 := []) (fun _ h => by cases h) (fun _ h => by cases h)) (Draws.text (A := A.in1) hh N x t) (Draws.text (A := A.in1) hh (N + 1) y u)
theorem at_txt {cs : List Nat} {i c : Nat} (h : (txt cs).cps[i]? = some c) : cs[i]? = some c := by
  have e : (txt cs).cps[i]? = cs[i]? := List.getElem?_toArray ..
  rw [← e]; exact h
theorem size_txt (cs : List Nat) : (txt cs).cps.size = cs.length := List.size_toArray
theorem zip_obj {N : Addr} {x y : Str} {t u : Tok} {i : Nat} {h : Heap} (st : zipAt N x y t u i h) : ∀ q ∈ zipCells N, ∃ o, h.get? q = some o ∧ ∀ v, o.data ≠ .cell v := by
  rcases st with ⟨z, ti, ⟨a, b, to⟩, ⟨o1, g1, c1, d1⟩, ⟨o2, g2, c2, d2⟩⟩
  intro q hq
  simp only [zipCells, List.mem_cons, List.not_mem_nil, or_false] at hq
  rcases hq with rfl | rfl | rfl | rfl | rfl
  · exact ⟨_, z, fun v e => by cases e⟩
  · exact ⟨_, ti, fun v e => by cases e⟩
  · exact ⟨_, to, fun v e => by cases e⟩
  · exact ⟨o1, g1, fun v e => by rw [d1] at e; cases e⟩
  · exact ⟨o2, g2, fun v e => by rw [d2] at e; cases e⟩
theorem zip_turn (P : Program) (w : World) (K : PySem.W.Frag) (elts : List Expr) (k : Nat) (pos : Pos) (N : Addr) (cs ds : List Nat) (t u : Tok) :
    Turn P w K (.Tuple elts k pos) (ItzS cs ds) (zipCells N) (N + 4) (zipAt N (txt cs) (txt ds) t u) where
  mem := List.mem_cons_self ..
  obj := fun i h st => zip_obj st
  keep := by
    rintro i h h' ⟨z, ti, ⟨a, b, to⟩, ⟨o1, g1, r1⟩, ⟨o2, g2, r2⟩⟩ same
    have on : ∀ q ∈ zipCells N, ∀ o, h.get? q = some o → h'.get? q = some o := same
    exact ⟨on _ (by simp [zipCells]) _ z, on _ (by simp [zipCells]) _ ti, ⟨a, b, on _ (by simp [zipCells]) _ to⟩, ⟨o1, on _ (by simp [zipCells]) _ g1, r1⟩, ⟨o2, on _ (by simp [zipCells]) _ g2, r2⟩⟩
  item := by
    intro X ep ew eK calm i pins s σ H E inv own st go
    subst ep ew eK
    have G := zip_goes (prog := X.prog) (w := X.w) (inv.ok.hd calm) elts k pos N (txt cs) (txt ds) t u
    refine G.goes i s (fun v s2 => ∃ x H', Inv X pins σ H' s2 ∧ RelV x v ∧ (ItzS cs ds).yld i H x H' ∧ zipAt N (txt cs) (txt ds) t u (i + 1) s2.heap ∧ ∀ b ∈ zipCells N, H' b = none) E (by rw [size_txt, size_txt]; exact go) st ?_
    rintro v h' tk ⟨T, a, b, rfl, new, ⟨c, ta, hc, rfl⟩, ⟨d, tb, hd, rfl⟩, tup⟩ st' kept _
    have inside : ∀ q ∈ [N + 4, N + 3, N, N + 1], FpOk X pins H q := fun q hq => own q (G.sub q hq)
    have fresh : H T = none := inv.hok.fresh new
    have laid : ObjOk X.prog X.w (upd H T (.tup [sig c, sig d])) h' T (.tup [sig c, sig d]) :=
      ⟨by show 2 ≤ sizeLine; decide, [.str ⟨#[c]⟩ ta, .str ⟨#[d]⟩ tb], .cons ⟨ta, rfl⟩ (.cons ⟨tb, rfl⟩ .nil), tup⟩
    refine ⟨.ref T, _, inv.turnedNew kept inside new laid, rfl, ⟨T, c, d, rfl, fresh, rfl, at_txt hc, at_txt hd⟩, st', fun q hq => ?_⟩
    rw [upd_ne (fun e => ?_)]
    · exact (own q hq).1
    · obtain ⟨ob, there, _⟩ := zip_obj st q hq
      exact absurd (Nat.lt_of_lt_of_le (Heap.lt_size there) (e ▸ new)) (Nat.lt_irrefl _)
  done := by
    intro X ep ew eK calm i pins s σ H E inv own st stop
    subst ep ew eK
    have G := zip_goes (prog := X.prog) (w := X.w) (inv.ok.hd calm) elts k pos N (txt cs) (txt ds) t u
    have e : i = min (txt cs).cps.size (txt ds).cps.size := by rw [size_txt, size_txt]; exact stop
    subst e
    refine G.stops s (Inv X pins σ H) E st fun h' tk kept _ => ?_
    exact inv.turnedL kept fun q hq => own q (G.sub q hq)
  self := fun _ _ _ _ _ st done => wpAny_pyIter_zip st.1 done
theorem pi_zipS {X : Cx} {e e2 : Expr} {ta : TA} {p pos tpos : Pos} {elts : List Expr} {kk : Nat} (glob : Gl X "zip") (free : X.mg "zip" = none) (args : PA X [e, e2] ta)
    (first : starEach [e, e2] X.env = (false, eval e X.env) :: starEach [e2] X.env := by rfl) (plain : (backTo pos (starEach [e2] X.env)).any (·.1) = false := by rfl) :
    PI X (.Tuple elts kk tpos) (.Call (.Name "zip" p) [e, e2] [] pos) (iZipS ta) where
  run pins s σ H R inv ask := by
    apply wpAny_Call_Name_kw
    apply ld_blt inv glob free PyProof.Rows.boot_zip
    apply PyProof.Rows.callWith_type1 _ first plain
    apply wpAny_mono (args.run pos pins s σ H _ inv ask) _ (fun _ _ raised => raised)
    rintro held s1 ⟨given, H1, inv1, rel, cs, ds, rfl, hand⟩
    match held, rel with
    | [_, _], .cons ⟨t1, rfl⟩ (.cons ⟨t2, rfl⟩ .nil) =>
      apply zip_begins2 (begins_text _ _) (begins_text _ _) trivial trivial
      intro heap hz hi ho g1 g2 size kept
      apply wpAny_pyIter_zip hz
      have inv2 : Inv X pins σ H1 { s1 with heap := heap } := inv1.kept (t' := s1.toks) kept
      refine ⟨_, zipCells s1.heap.objs.size, zipAt s1.heap.objs.size (txt cs) (txt ds) t1 t2, ItzS cs ds, H1, rfl, inv2, zip_turn _ _ _ _ _ _ _ _ _ _ _, ⟨hz, hi, ⟨_, _, ho⟩, ⟨_, g1, rfl, rfl⟩, ⟨_, g2, rfl, rfl⟩⟩, fun q hq => ?_, hand⟩
      have above : s1.heap.objs.size ≤ q := by
        simp only [zipCells, List.mem_cons, List.not_mem_nil, or_false] at hq
        have up : ∀ n : Nat, (s1.heap.objs.size : Nat) ≤ s1.heap.objs.size + n := fun n => Nat.le_add_right _ _
        rcases hq with rfl | rfl | rfl | rfl | rfl
        · exact up 4
        · exact up 2
        · exact up 3
        · exact up 0
        · exact up 1
      have low := inv1.fpOk (H' := H1) above (inv1.hok.fresh above)
      exact low
theorem walk_zipS {cs ds : List Nat} : Walk (ItzS cs ds) (min cs.length ds.length) (fun _ => True) (fun i H x H' => ∃ T c d, x = .ref T ∧ H T = none ∧ H' = upd H T (.tup [sig c, sig d]) ∧ cs[i]? = some c ∧ ds[i]? = some d) where
  goes := fun _ _ lt _ => lt
  stops := fun _ _ => rfl
  yields := fun _ _ _ _ _ _ y => y
end Tm

/-! a set comprehension whose elements are ints; its length -/
namespace Tm
open PySem PySem.Spec PyProof.Rows L2
/-- {elt for target in iter}: D is the new set; W holds ahead of each turn, by the turn and a number that falls; Nx is what a turn reaches -/
def tSetI (w : World) (wi : TI) (g : TG) (te : TE) (vs : List Nat) : TE := fun σ H Q => wi σ H fun J H1 => ∀ D, H1 D = none → ∃ W : Nat → Nat → Hp → Prop, (∃ m, W 0 m (upd H1 D (SetO w D (fun _ => false) 0))) ∧
  ∀ i m H, W i m H → (J.stop i H ∧ Q (.ref D) H) ∨ (J.go i H ∧ ∃ Nx : Hp → Prop, (∀ H', Nx H' → ∃ m', m' < m ∧ W (i + 1) m' H') ∧
    ∀ x H', J.yld i H x H' → g x (wipe σ vs) H' fun σ2 H2 => wipe σ2 vs = wipe σ vs ∧ te σ2 H2 fun y H3 => ∃ (k : Int) (S : Int → Bool) (n : Nat), y = .int k ∧ H3 D = some (SetO w D S n) ∧ n + 1 < scanBound ∧
      Nx (upd H3 D (SetO w D (fun j => S j || decide (j = k)) (if S k = true then n else n + 1))))
/-- the slots of the block's own names matter to nobody -/
theorem wipe_weak {X : Cx} {pins : List (Addr × Obj)} {σ : L2.St} {H : Hp} {s : Shared} {vs : List Nat} (I : Inv X pins σ H s) : Inv X pins (wipe σ vs) H s :=
  I.weak (wipe_length σ vs) fun i v h => (wipe_some h).1
theorem set_block {X : Cx} {pins : List (Addr × Obj)} {σ : L2.St} {Hs : Hp} {s3 : Shared} {Q : VK} {elt tg iter : Expr} {scope : Scope} {own : List (PySem.Str × Nat)} {pos : Pos} {g : TG} {te : TE} {J : It} {fp : List Addr} {it D : Addr} {tn : Nat → Heap → Prop} {W : Nat → Nat → Hp → Prop} {m0 : Nat}
    (calm : X.calm = true) (nodup : X.N.Nodup) (ok : BlkOk X.N X.env.scope scope own)
    (goal : ∀ (s : Shared) (H : Hp) (C : Addr) (cl : List (PySem.Str × Addr)) (fp : List Addr), PG (X.blk s H scope (compEnvC scope cl C X.env) fp) tg g)
    (elem : ∀ (s : Shared) (H : Hp) (C : Addr) (cl : List (PySem.Str × Addr)) (fp : List Addr), PE (X.blk s H scope (compEnvC scope cl C X.env) fp) elt te)
    (inv3 : Inv X pins σ Hs s3) (turns : Turn X.prog X.w X.K tg J fp it tn) (start : tn 0 s3.heap) (mine : ∀ b ∈ fp, FpOk X pins Hs b) (w0 : W 0 m0 Hs)
    (step : ∀ i m H, W i m H → (J.stop i H ∧ Q (.ref D) H) ∨ (J.go i H ∧ ∃ Nx : Hp → Prop, (∀ H', Nx H' → ∃ m', m' < m ∧ W (i + 1) m' H') ∧
      ∀ x H', J.yld i H x H' → g x (wipe σ (own.map (·.2))) H' fun σ2 H2 => wipe σ2 (own.map (·.2)) = wipe σ (own.map (·.2)) ∧ te σ2 H2 fun y H3 => ∃ (k : Int) (S : Int → Bool) (n : Nat), y = .int k ∧ H3 D = some (SetO X.w D S n) ∧ n + 1 < scanBound ∧
        Nx (upd H3 D (SetO X.w D (fun j => S j || decide (j = k)) (if S k = true then n else n + 1))))) :
    wpAny (model X.prog X.w) X.A (newFunctionEnv scope X.env.globals (cloFrom X.env.cells scope.names []) [] X.env.qual none .none (some X.env)) (fun cenv s4 =>
      codeAny (model X.prog X.w) X.A (.compStart (.SetComp elt [⟨tg, iter, [], 0⟩] scope pos) 0 (.ref it) (.ref D) { cenv with scope := relabel scope X.env }) (compEnds (model X.prog X.w) X.A X.xe none (EP X pins σ Q) (.ref D) { cenv with scope := relabel scope X.env }) s4) X.xe s3 := by
  have born : ∀ b ∈ fp, b < s3.heap.objs.size := fun b hb => by
    obtain ⟨o, there, _⟩ := turns.obj 0 _ start b hb
    exact Heap.lt_size there
  have inv4 := block_start (fp := fp) inv3 ok nodup fun b hb => ⟨mine b hb, born b hb⟩
  apply newEnv_comp
  have start4 : tn 0 (pushCells (s3.heap.push { cls := .type "dict", data := .dict #[] }) scope.names) := turns.keep 0 _ _ start fun b _ o there => pushCells_keeps _ _ _ _ (Heap.get?_push_of_some _ there)
  have low := inv3.fpOk (H' := Hs) (b := s3.heap.objs.size) (Nat.le_refl _) (inv3.hok.fresh (Nat.le_refl _))
  generalize pushCells (s3.heap.push { cls := .type "dict", data := .dict #[] }) scope.names = h4 at inv4 start4 ⊢
  show codeAny _ _ (.compStart _ 0 _ _ (compEnvC scope (cellsFrom (s3.heap.objs.size + 1) scope.names (cloFrom X.env.cells scope.names [])) s3.heap.objs.size X.env)) (compEnds _ _ _ none _ _ (compEnvC scope (cellsFrom (s3.heap.objs.size + 1) scope.names (cloFrom X.env.cells scope.names [])) s3.heap.objs.size X.env)) _
  generalize cellsFrom (s3.heap.objs.size + 1) scope.names (cloFrom X.env.cells scope.names []) = cl at inv4 ⊢
  have loop : codeAny (model X.prog X.w) X.A (.compLoop (.SetComp elt [⟨tg, iter, [], 0⟩] scope pos) 0 (.ref it) (.ref D) (compEnvC scope cl s3.heap.objs.size X.env)) (compEnds (model X.prog X.w) X.A X.xe none (EP X pins σ Q) (.ref D) (compEnvC scope cl s3.heap.objs.size X.env)) { s3 with heap := h4 } := by
    apply PpSet.compLoopS_any (I := fun n s => ∃ i Hc, Inv (X.blk s3 Hs scope (compEnvC scope cl s3.heap.objs.size X.env) fp) [] (wipe σ (own.map (·.2))) Hc s ∧ tn i s.heap ∧ (∀ b ∈ fp, Hc b = none) ∧ W i n Hc) _ m0 ⟨0, Hs, inv4, start4, fun b hb => (mine b hb).1, w0⟩
    rintro n s5 ⟨i, Hc, inv5, st5, free5, w5⟩
    have own5 : ∀ (H : Hp), (∀ b ∈ fp, H b = none) → ∀ b ∈ fp, FpOk (X.blk s3 Hs scope (compEnvC scope cl s3.heap.objs.size X.env) fp) [] H b := fun H free b hb =>
      ⟨free b hb, (inv5.ok.exf b hb).1, inv5.ok.exfs b hb, .inl hb, (inv5.ok.exf b hb).2, fun p hp => by cases hp⟩
    rcases step i n Hc w5 with ⟨stop, q⟩ | ⟨go, Nx, next, yields⟩
    · apply wpAny_mono (turns.done (X.blk s3 Hs scope (compEnvC scope cl s3.heap.objs.size X.env) fp) rfl rfl rfl calm i [] s5 _ Hc _ inv5 (own5 Hc free5) st5 stop) _ (fun _ _ raised => raised)
      rintro r s6 ⟨rfl, inv6⟩
      obtain ⟨names, ns, _⟩ := inv6.loc
      refine ⟨names, ns, fun h' same => ?_⟩
      have out : Inv X pins σ Hc s6 := inv3.call' inv6.os inv6.base inv6.hok inv6.bare fun b hb => ⟨(mine b hb).2.2.2.1, (mine b hb).2.1, (mine b hb).2.2.2.2.1, (mine b hb).2.2.2.2.2⟩
      exact ⟨.ref D, Hc, out.turned (t' := s6.toks) (fun b o hb there => (same.2 b hb).trans there) inv6.free low.2.1 low.2.2.2.1 low.2.2.2.2.1 low.2.2.2.2.2, rfl, q⟩
    · apply wpAny_mono (turns.item (X.blk s3 Hs scope (compEnvC scope cl s3.heap.objs.size X.env) fp) rfl rfl rfl calm i [] s5 _ Hc _ inv5 (own5 Hc free5) st5 go) _ (fun _ _ raised => raised)
      rintro r s6 ⟨u, rfl, rest⟩
      apply wpAny_mono rest _ (fun _ _ raised => raised)
      rintro _ s7 ⟨x, H7, inv7, rel, yld, st7, free7⟩
      have held := inv7.pinned (own5 H7 free7) (turns.obj _ _ st7)
      apply wpAny_mono ((goal s3 Hs s3.heap.objs.size cl fp).run _ s7 _ H7 x u _ held rel (yields x H7 yld)) _ (fun _ _ raised => raised.elim)
      rintro _ s8 ⟨σ8, H8, inv8, wiped, more⟩
      apply wpAny_tests_nil
      rw [if_pos rfl]
      apply wpAny_mono ((elem s3 Hs s3.heap.objs.size cl fp).run _ s8 σ8 H8 _ inv8 more) _ (fun _ _ raised => raised.elim)
      rintro u9 s9 ⟨y, H9, inv9, rel9, k, S, c, rfl, atD, room, nx⟩
      rcases rel9 with ⟨tok, rfl⟩
      apply setR_add (setO_get inv9 atD) room
      intro h10 same10 set10
      have inv10 := inv9.write (e := D) (h' := h10) (t' := s9.toks + 1) (by rw [atD]; trivial) (.inl rfl) (fun b o hb there => (same10.2 b hb).trans there) (set10.imp fun o r => by obtain ⟨_, _, _, there, _⟩ := r; exact there) (setO_new set10)
      obtain ⟨m1, less, w1⟩ := next _ nx
      refine ⟨m1, less, i + 1, _, ?_, ?_, ?_, w1⟩
      · rw [← wiped]
        exact wipe_weak inv10.unpinned
      · refine turns.keep (i + 1) _ _ st7 fun b hb o there => ?_
        exact (inv10.pin (b, o) (List.mem_append_right _ (List.mem_append_right _ (mem_pinsAt hb there)))).1
      · intro b hb
        obtain ⟨o, there, _⟩ := turns.obj _ _ st7 b hb
        exact (inv10.pin (b, o) (List.mem_append_right _ (List.mem_append_right _ (mem_pinsAt hb there)))).2.1
  exact PpSet.codeAny_compStart_set loop (turns.self _ 0 _ _ _ start4 loop)
theorem pe_setI {X : Cx} {elt tg iter : Expr} {scope : Scope} {own : List (PySem.Str × Nat)} {pos : Pos} {wi : TI} {g : TG} {te : TE} (calm : X.calm = true) (nodup : X.N.Nodup) (walk : PI X tg iter wi) (ok : BlkOk X.N X.env.scope scope own)
    (goal : ∀ (s : Shared) (H : Hp) (C : Addr) (cl : List (PySem.Str × Addr)) (fp : List Addr), PG (X.blk s H scope (compEnvC scope cl C X.env) fp) tg g)
    (elem : ∀ (s : Shared) (H : Hp) (C : Addr) (cl : List (PySem.Str × Addr)) (fp : List Addr), PE (X.blk s H scope (compEnvC scope cl C X.env) fp) elt te)
    (unfolded : ∀ x, foldedSetIterable iter X.env x = pure x := by intro _; rfl) :
    PE X (.SetComp elt [⟨tg, iter, [], 0⟩] scope pos) (tSetI X.w wi g te (own.map (·.2))) where
  run pins s σ H Q inv ask := by
    have caught : ∀ y ∈ scope.names, y.2 = .free → ∃ c, X.env.cells.lookup y.1 = some c := fun y hy free => by
      rcases ok.free y hy free with k | k
      · exact inv.ok.has _ (.inl k)
      · exact inv.ok.has _ (.inr k)
    rw [PySem.arm_eval_SetComp]
    apply comprehension_at (use := none) rfl unfolded (closure_ok caught) ok.kind (fun y hy hl => by rw [ok.uniq y hy, hl])
    apply wpAny_mono (walk.run pins s σ H _ inv ask) _ (fun _ _ raised => raised)
    intro v s1 run1
    apply wpAny_mono run1 _ (fun _ _ raised => raised)
    rintro itv s2 ⟨it, fp, tn, J, H1, rfl, inv2, turns, start, mine, plan⟩
    apply PpSet.newSet_ok
    have freeD : H1 s2.heap.objs.size = none := inv2.hok.fresh (Nat.le_refl _)
    obtain ⟨W, ⟨m0, w0⟩, step⟩ := plan _ freeD
    have inv3 : Inv X pins σ (upd H1 s2.heap.objs.size (SetO X.w s2.heap.objs.size (fun _ => false) 0)) { s2 with heap := s2.heap.push { cls := .type "set", dict := none, data := .set #[] 0 (.fresh 0 0 (!X.w.params.followText "set-order")) } } :=
      inv2.laid (t' := s2.toks) (fun b u e => Heap.get?_push_of_some _ e) (Nat.le_refl _) (setO_new (setR_fresh X.w))
    have stays : ∀ b o, s2.heap.get? b = some o → (s2.heap.push { cls := .type "set", dict := none, data := .set #[] 0 (.fresh 0 0 (!X.w.params.followText "set-order")) }).get? b = some o := fun b o e => Heap.get?_push_of_some _ e
    have born : ∀ b ∈ fp, b < s2.heap.objs.size := fun b hb => by
      obtain ⟨o, there, _⟩ := turns.obj 0 _ start b hb
      exact Heap.lt_size there
    exact set_block calm nodup ok goal elem inv3 turns (turns.keep 0 _ _ start fun b _ o there => stays b o there) (fun b hb => ⟨by rw [upd_ne (Nat.ne_of_lt (born b hb))]; exact (mine b hb).1, (mine b hb).2⟩) w0 step
/-- its walk over a tuple, which stands still meanwhile -/
theorem setI_tup {w : World} {K : PySem.W.Frag} {a : Addr} {xs : List V} {g : TG} {te : TE} {vs : List Nat} {σ : L2.St} {H1 : Hp} {D : Addr} {Qd : Hp → Prop} (Pv : Nat → Hp → Prop) (begin_ : Pv 0 (upd H1 D (SetO w D (fun _ => false) 0)))
    (stands : ∀ i H, i ≤ xs.length → Pv i H → SqT K H a xs)
    (turn : ∀ i x H, xs[i]? = some x → Pv i H → g x (wipe σ vs) H fun σ2 H2 => wipe σ2 vs = wipe σ vs ∧ te σ2 H2 fun y H3 => ∃ (k : Int) (S : Int → Bool) (n : Nat), y = .int k ∧ H3 D = some (SetO w D S n) ∧ n + 1 < scanBound ∧
      Pv (i + 1) (upd H3 D (SetO w D (fun j => S j || decide (j = k)) (if S k = true then n else n + 1))))
    (ends : ∀ H, Pv xs.length H → Qd H) :
    ∃ W : Nat → Nat → Hp → Prop, (∃ m, W 0 m (upd H1 D (SetO w D (fun _ => false) 0))) ∧ ∀ i m H, W i m H → ((Itt K a).stop i H ∧ Qd H) ∨ ((Itt K a).go i H ∧ ∃ Nx : Hp → Prop, (∀ H', Nx H' → ∃ m', m' < m ∧ W (i + 1) m' H') ∧
      ∀ x H', (Itt K a).yld i H x H' → g x (wipe σ vs) H' fun σ2 H2 => wipe σ2 vs = wipe σ vs ∧ te σ2 H2 fun y H3 => ∃ (k : Int) (S : Int → Bool) (n : Nat), y = .int k ∧ H3 D = some (SetO w D S n) ∧ n + 1 < scanBound ∧
        Nx (upd H3 D (SetO w D (fun j => S j || decide (j = k)) (if S k = true then n else n + 1)))) := by
  refine ⟨fun i m H => i + m = xs.length ∧ Pv i H, ⟨xs.length, Nat.zero_add _, begin_⟩, ?_⟩
  rintro i m H ⟨left, here⟩
  have there : SqT K H a xs := stands i H (by omega) here
  cases m with
  | zero =>
    have e : i = xs.length := left
    subst e
    exact .inl ⟨⟨xs, there, Nat.le_refl _⟩, ends H here⟩
  | succ m =>
    have lt : i < xs.length := by omega
    refine .inr ⟨⟨xs, xs[i], there, List.getElem?_eq_getElem lt⟩, Pv (i + 1), fun H' p => ⟨m, Nat.lt_succ_self _, by omega, p⟩, ?_⟩
    rintro x H' ⟨rfl, item⟩
    exact turn i x H' (item xs there) here
/-- len of a set of ints -/
theorem call_lenI {X : Cx} : CallR X (.builtin "len") (fun given H Q => ∃ (a : Addr) (S : Int → Bool) (n : Nat), given = [.ref a] ∧ H a = some (SetO X.w a S n) ∧ n ≤ 1000 ∧ Q (.int (n : Int)) H) :=
  fun pins s σ H given held Q inv rel ask => by
    rcases ask with ⟨a, S, n, rfl, at_a, short, hand⟩
    match held, rel with
    | [_], .cons rfl .nil =>
      obtain ⟨o, es, ep, t, there, exact_, dat, _, _, _, _, fits, rfl, _⟩ := setO_get inv at_a
      apply call_len_set there exact_ dat fits (by omega)
      exact ⟨.int _, H, inv.tok _, ⟨_, rfl⟩, hand⟩
end Tm

/-! strings of the letters 1, X, Z, W: what their products are -/
namespace Tm
open PySem PySem.Spec PyProof.Rows L2
/-! ### the letters -/
def Al : List Nat := [49, 88, 90, 87]
def pP (a b : Nat) : List Nat := ([([49, 49], [49]), ([49, 88], [88]), ([49, 90], [90]), ([49, 87], [87]), ([88, 49], [88]), ([88, 88], [49]), ([88, 90], [87]), ([88, 87], [90]), ([90, 49], [90]), ([90, 88], [45, 87]), ([90, 90], [49]), ([90, 87], [45, 88]),
  ([87, 49], [87]), ([87, 88], [45, 90]), ([87, 90], [88]), ([87, 87], [45, 49])].lookup [a, b]).getD []
def pS (a b : Nat) : Nat := signL (pP a b)
def pL (a b : Nat) : Nat := (lettersL (pP a b)).headD 0
theorem p_form : ∀ a ∈ Al, ∀ b ∈ Al, lettersL (pP a b) = [pL a b] ∧ pL a b ∈ Al ∧ pS a b ≤ 1 ∧ (pP a b).length ≤ 2 := by decide +kernel
theorem p_assoc : ∀ a ∈ Al, ∀ b ∈ Al, ∀ c ∈ Al, pL (pL a b) c = pL a (pL b c) ∧ (pS a b + pS (pL a b) c) % 2 = (pS b c + pS a (pL b c)) % 2 := by decide +kernel
theorem p_comm : ∀ a ∈ Al, ∀ b ∈ Al, pL a b = pL b a := by decide +kernel
theorem p_self : ∀ a ∈ Al, pL a a = 49 ∧ pS a a = if a = 87 then 1 else 0 := by decide +kernel
theorem p_one : ∀ a ∈ Al, pL a 49 = a ∧ pS a 49 = 0 := by decide +kernel
theorem p_lin : ∀ a ∈ Al, ∀ b ∈ Al, ∀ c ∈ Al, (pS a (pL b c) + pS (pL b c) a) % 2 = (pS a b + pS b a + (pS a c + pS c a)) % 2 := by decide +kernel
/-! ### rows of letters -/
def Al4 (cs : List Nat) : Prop := ∀ c ∈ cs, c ∈ Al
theorem Al4.head {c : Nat} {cs : List Nat} (h : Al4 (c :: cs)) : c ∈ Al := h c List.mem_cons_self
theorem Al4.tail {c : Nat} {cs : List Nat} (h : Al4 (c :: cs)) : Al4 cs := fun x hx => h x (List.mem_cons_of_mem _ hx)
theorem Al4.lt {cs : List Nat} (h : Al4 cs) : Lt cs := fun c hc e => by
  subst e
  exact absurd (h _ hc) (by decide)
def zS (as bs : List Nat) : Nat := (List.zipWith pS as bs).sum
def zL (as bs : List Nat) : List Nat := List.zipWith pL as bs
theorem zS_cons (a b : Nat) (as bs : List Nat) : zS (a :: as) (b :: bs) = pS a b + zS as bs := by
  show (pS a b :: List.zipWith pS as bs).sum = _
  rw [List.sum_cons]; rfl
theorem zL_cons (a b : Nat) (as bs : List Nat) : zL (a :: as) (b :: bs) = pL a b :: zL as bs := rfl
theorem zL_len {as bs : List Nat} (h : as.length = bs.length) : (zL as bs).length = as.length := by
  show (List.zipWith pL as bs).length = _
  rw [List.length_zipWith]; omega
theorem zL_al : ∀ {as bs : List Nat}, Al4 as → Al4 bs → Al4 (zL as bs)
  | [], _, _, _ => fun c hc => by cases hc
  | _ :: _, [], _, _ => fun c hc => by cases hc
  | a :: as, b :: bs, ha, hb => by
    intro c hc
    rw [zL_cons] at hc
    rcases List.mem_cons.mp hc with rfl | hc
    · exact (p_form a ha.head b hb.head).2.1
    · exact zL_al ha.tail hb.tail c hc
theorem z_assoc : ∀ (as bs cs : List Nat), as.length = bs.length → bs.length = cs.length → Al4 as → Al4 bs → Al4 cs → zL (zL as bs) cs = zL as (zL bs cs) ∧ (zS as bs + zS (zL as bs) cs) % 2 = (zS bs cs + zS as (zL bs cs)) % 2
  | [], [], [], _, _, _, _, _ => ⟨rfl, rfl⟩
  | a :: as, b :: bs, c :: cs, h1, h2, ha, hb, hc => by
    have i := z_assoc as bs cs (Nat.succ.inj h1) (Nat.succ.inj h2) ha.tail hb.tail hc.tail
    have p := p_assoc a ha.head b hb.head c hc.head
    simp only [zL_cons, zS_cons]
    exact ⟨by rw [p.1, i.1], by have := p.2; have := i.2; omega⟩
theorem z_comm : ∀ (as bs : List Nat), as.length = bs.length → Al4 as → Al4 bs → zL as bs = zL bs as
  | [], [], _, _, _ => rfl
  | a :: as, b :: bs, h, ha, hb => by
    rw [zL_cons, zL_cons, z_comm as bs (Nat.succ.inj h) ha.tail hb.tail, p_comm a ha.head b hb.head]
theorem z_self : ∀ (as : List Nat), Al4 as → zL as as = List.replicate as.length 49 ∧ zS as as = as.count 87
  | [], _ => ⟨rfl, rfl⟩
  | a :: as, ha => by
    have i := z_self as ha.tail
    have p := p_self a ha.head
    rw [zL_cons, zS_cons, i.1, i.2, p.1, p.2, List.count_cons]
    refine ⟨rfl, ?_⟩
    by_cases e : a = 87
    · subst e; simp [Nat.add_comm]
    · rw [if_neg e, if_neg (by simpa using e)]; omega
theorem z_one : ∀ (as : List Nat), Al4 as → zL as (List.replicate as.length 49) = as ∧ zS as (List.replicate as.length 49) = 0
  | [], _ => ⟨rfl, rfl⟩
  | a :: as, ha => by
    have i := z_one as ha.tail
    have p := p_one a ha.head
    rw [List.length_cons, List.replicate_succ, zL_cons, zS_cons, i.1, i.2, p.1, p.2]
    exact ⟨rfl, rfl⟩
theorem z_lin : ∀ (as bs cs : List Nat), as.length = bs.length → bs.length = cs.length → Al4 as → Al4 bs → Al4 cs → (zS as (zL bs cs) + zS (zL bs cs) as) % 2 = (zS as bs + zS bs as + (zS as cs + zS cs as)) % 2
  | [], [], [], _, _, _, _, _ => rfl
  | a :: as, b :: bs, c :: cs, h1, h2, ha, hb, hc => by
    have i := z_lin as bs cs (Nat.succ.inj h1) (Nat.succ.inj h2) ha.tail hb.tail hc.tail
    have p := p_lin a ha.head b hb.head c hc.head
    simp only [zL_cons, zS_cons]
    omega
theorem al_ones (n : Nat) : Al4 (List.replicate n 49) := fun c hc => by rw [List.eq_of_mem_replicate hc]; decide
/-! ### strings: texts of letters with a sign -/
def od (n : Nat) : Bool := decide (n % 2 = 1)
theorem od_nat (n : Nat) : (od n).toNat = n % 2 := by
  unfold od
  rcases Nat.mod_two_eq_zero_or_one n with h | h
  · rw [h]; rfl
  · rw [h]; rfl
theorem od_eq {m n : Nat} (h : m % 2 = n % 2) : od m = od n := by unfold od; rw [h]
theorem od_bit (b : Bool) : od b.toNat = b := by cases b <;> rfl
def two (x y : List Nat) : List Nat := signedL ((signL x + signL y + zS (lettersL x) (lettersL y) : Nat) : Int) (zL (lettersL x) (lettersL y))
theorem signed_od (n : Nat) (cs : List Nat) : signedL ((n : Nat) : Int) cs = wd (od n) cs := by
  rw [signed_wd]
  unfold od
  have e : decide (((n : Nat) : Int) % 2 = 1) = decide (n % 2 = 1) := by
    by_cases h : n % 2 = 1
    · rw [decide_eq_true h, decide_eq_true (by omega)]
    · rw [decide_eq_false h, decide_eq_false (by omega)]
  rw [e]
theorem two_wd {s t : Bool} {as bs : List Nat} (ha : Al4 as) (hb : Al4 bs) : two (wd s as) (wd t bs) = wd (od (s.toNat + t.toNat + zS as bs)) (zL as bs) := by
  unfold two
  rw [sign_wd ha.lt, sign_wd hb.lt, letters_wd ha.lt, letters_wd hb.lt, signed_od]
def multL : List (List Nat) → List Nat
  | [] => []
  | x :: r => r.foldl two x
/-- a string of n letters -/
def Sn (n : Nat) (x : List Nat) : Prop := ∃ s cs, x = wd s cs ∧ cs.length = n ∧ Al4 cs
theorem Sn.two {n : Nat} {x y : List Nat} (hx : Sn n x) (hy : Sn n y) : Sn n (two x y) := by
  obtain ⟨s, as, rfl, la, ha⟩ := hx
  obtain ⟨t, bs, rfl, lb, hb⟩ := hy
  exact ⟨_, _, two_wd ha hb, by rw [zL_len (by omega)]; exact la, zL_al ha hb⟩
theorem Sn.fold {n : Nat} : ∀ {r : List (List Nat)} {x : List Nat}, Sn n x → (∀ y ∈ r, Sn n y) → Sn n (r.foldl Tm.two x)
  | [], _, hx, _ => hx
  | y :: r, x, hx, hr => Sn.fold (r := r) (hx.two (hr y List.mem_cons_self)) fun z hz => hr z (List.mem_cons_of_mem _ hz)
theorem Sn.len {n : Nat} {x : List Nat} (h : Sn n x) : x.length ≤ n + 1 ∧ (lettersL x).length = n ∧ Al4 (lettersL x) := by
  obtain ⟨s, cs, rfl, l, a⟩ := h
  refine ⟨?_, by rw [letters_wd a.lt]; exact l, by rw [letters_wd a.lt]; exact a⟩
  rw [wd_len, l]
  cases s
  · exact Nat.le_succ _
  · exact Nat.le_refl _
theorem Sn.one (n : Nat) : Sn n (List.replicate n 49) := ⟨false, _, rfl, List.length_replicate, al_ones n⟩
theorem two_assoc {n : Nat} {x y z : List Nat} (hx : Sn n x) (hy : Sn n y) (hz : Sn n z) : two (two x y) z = two x (two y z) := by
  obtain ⟨s, as, rfl, la, ha⟩ := hx
  obtain ⟨t, bs, rfl, lb, hb⟩ := hy
  obtain ⟨u, cs, rfl, lc, hc⟩ := hz
  have a := z_assoc as bs cs (by omega) (by omega) ha hb hc
  rw [two_wd ha hb, two_wd hb hc, two_wd (zL_al ha hb) hc, two_wd ha (zL_al hb hc), a.1, od_nat, od_nat]
  congr 1
  apply od_eq
  have := a.2
  omega
theorem two_body {n : Nat} {x y : List Nat} (hx : Sn n x) (hy : Sn n y) : lettersL (two x y) = lettersL (two y x) := by
  obtain ⟨s, as, rfl, la, ha⟩ := hx
  obtain ⟨t, bs, rfl, lb, hb⟩ := hy
  rw [two_wd ha hb, two_wd hb ha, letters_wd (zL_al ha hb).lt, letters_wd (zL_al hb ha).lt, z_comm as bs (by omega) ha hb]
theorem two_self {s : Bool} {cs : List Nat} (h : Al4 cs) : two (wd s cs) (wd s cs) = wd (od (cs.count 87)) (List.replicate cs.length 49) := by
  rw [two_wd h h, (z_self cs h).1, (z_self cs h).2]
  congr 1
  apply od_eq
  cases s <;> simp
theorem two_one {n : Nat} {x : List Nat} (hx : Sn n x) : two x (List.replicate n 49) = x := by
  obtain ⟨s, as, rfl, la, ha⟩ := hx
  have e : List.replicate n 49 = wd false (List.replicate as.length 49) := by rw [la]; rfl
  rw [e, two_wd ha (al_ones _), (z_one as ha).1, (z_one as ha).2]
  congr 1
  exact od_bit s
theorem two_four {n : Nat} {x : List Nat} (hx : Sn n x) : two (two (two x x) x) x = List.replicate n 49 := by
  obtain ⟨s, as, rfl, la, ha⟩ := hx
  have e1 := two_self (s := s) ha
  have e2 : two (two (two (wd s as) (wd s as)) (wd s as)) (wd s as) = two (two (wd s as) (wd s as)) (two (wd s as) (wd s as)) := by
    refine two_assoc (n := n) ?_ ⟨s, as, rfl, la, ha⟩ ⟨s, as, rfl, la, ha⟩
    exact Sn.two ⟨s, as, rfl, la, ha⟩ ⟨s, as, rfl, la, ha⟩
  rw [e2, e1, two_self (al_ones _)]
  have e3 : (List.replicate as.length 49).count 87 = 0 := by rw [List.count_replicate]; rfl
  rw [e3, List.length_replicate, la]
  rfl
/-- whether two strings commute -/
def cmB (x y : List Nat) : Bool := decide (two x y = two y x)
theorem cm_wd {s t : Bool} {as bs : List Nat} (ha : Al4 as) (hb : Al4 bs) (l : as.length = bs.length) : cmB (wd s as) (wd t bs) = decide ((zS as bs + zS bs as) % 2 = 0) := by
  unfold cmB
  rw [two_wd ha hb, two_wd hb ha, z_comm bs as l.symm hb ha]
  have inj : ∀ (a b : Bool) (cs : List Nat), wd a cs = wd b cs → a = b := by
    intro a b cs e
    have e2 := congrArg List.length e
    rw [wd_len, wd_len] at e2
    cases a <;> cases b <;> first | rfl | (simp at e2)
  have key : (od (s.toNat + t.toNat + zS as bs) = od (t.toNat + s.toNat + zS bs as)) ↔ (zS as bs + zS bs as) % 2 = 0 := by
    unfold od
    rw [decide_eq_decide]
    omega
  by_cases h : (zS as bs + zS bs as) % 2 = 0
  · rw [decide_eq_true h, key.mpr h]; exact decide_eq_true rfl
  · rw [decide_eq_false h]
    exact decide_eq_false fun e => h (key.mp (inj _ _ _ e))
theorem cm_lin {n : Nat} {x y z : List Nat} (hx : Sn n x) (hy : Sn n y) (hz : Sn n z) : cmB x (two y z) = (cmB x y == cmB x z) := by
  obtain ⟨s, as, rfl, la, ha⟩ := hx
  obtain ⟨t, bs, rfl, lb, hb⟩ := hy
  obtain ⟨u, cs, rfl, lc, hc⟩ := hz
  have lin := z_lin as bs cs (by omega) (by omega) ha hb hc
  rw [two_wd hb hc, cm_wd ha (zL_al hb hc) (by rw [zL_len (by omega)]; omega), cm_wd ha hb (by omega), cm_wd ha hc (by omega)]
  have q1 := Nat.mod_two_eq_zero_or_one (zS as bs + zS bs as)
  have q2 := Nat.mod_two_eq_zero_or_one (zS as cs + zS cs as)
  rcases q1 with q1 | q1 <;> rcases q2 with q2 | q2 <;> (rw [q1, q2]; first | (rw [show (zS as (zL bs cs) + zS (zL bs cs) as) % 2 = 0 by omega]; rfl) | (rw [show (zS as (zL bs cs) + zS (zL bs cs) as) % 2 = 1 by omega]; rfl))
/-! ### a sign written n times; how often a sign stands in a text -/
theorem mul_ones (c n : Nat) : Txt.mul ⟨#[c]⟩ ((n : Nat) : Int) = txt (List.replicate n c) := by
  unfold Txt.mul
  cases n with
  | zero => rfl
  | succ n =>
    have h1 : ¬ (((n + 1 : Nat)) : Int) < 1 := by omega
    rw [if_neg h1]
    have join : ∀ (k : Nat) (a : Array Nat), (List.replicate k #[c]).foldl (· ++ ·) a = a ++ (List.replicate k c).toArray := by
      intro k
      induction k with
      | zero => intro a; simp
      | succ k ih =>
        intro a
        rw [List.replicate_succ, List.foldl_cons, ih, List.replicate_succ]
        apply Array.toList_inj.mp
        simp
    by_cases h2 : ((((n + 1 : Nat)) : Int) == 1 || (⟨#[c]⟩ : Str).length == 0) = true
    · rw [if_pos h2]
      have e : n = 0 := by
        rcases Bool.or_eq_true_iff.mp h2 with q | q
        · have := (beq_iff_eq.mp q); omega
        · cases q
      subst e
      rfl
    · rw [if_neg h2]
      have e : (((n + 1 : Nat)) : Int).toNat = n + 1 := rfl
      rw [e]
      show (⟨(List.replicate (n + 1) #[c]).foldl (· ++ ·) #[]⟩ : Str) = ⟨(List.replicate (n + 1) c).toArray⟩
      rw [join, Array.empty_append]
theorem op_times {X : Cx} : OpR X (binaryOp .Mult) (fun x y H Q => ∃ c n : Nat, x = sig c ∧ y = .int ((n : Nat) : Int) ∧ n ≤ 1000 ∧ Q (.str (txt (List.replicate n c))) H) := by
  rintro pins s σ H x y v u Q inv rx ry ⟨c, n, rfl, rfl, few, hand⟩
  rcases rx with ⟨t, rfl⟩
  rcases ry with ⟨t2, rfl⟩
  apply SB.mul
  · refine ⟨?_, fun h1 h2 => ?_, fun h1 h2 => ?_⟩
    · simp only [Bool.or_eq_false_iff, decide_eq_false_iff_not]; omega
    · show ¬ ((1 : Int) > _)
      have : (1 : Int) ≤ (2 ^ 63 - 1) / ((n : Nat) : Int) := by
        rw [Int.le_ediv_iff_mul_le (by omega)]; omega
      omega
    · unfold Builtin.Str.tooLong
      have small : (1 : Nat) * ((n : Nat) : Int).toNat ≤ sizeLine := by
        rw [Nat.one_mul]
        exact Nat.le_trans few (by decide)
      exact decide_eq_false (Nat.not_lt.mpr small)
  · intro t' k
    rw [mul_ones]
    exact ⟨.str _, H, inv.tok _, ⟨_, rfl⟩, hand⟩
theorem count_txt (cs : List Nat) (c : Nat) : Txt.count (txt cs) ⟨#[c]⟩ = ((cs.count c : Nat) : Int) := by
  rw [count_is, txt_cps]
  show cnt c cs = _
  induction cs with
  | nil => rfl
  | cons n r ih =>
    rw [cnt_cons, ih, List.count_cons]
    by_cases e : n = c
    · subst e; simp; omega
    · rw [if_neg e, if_neg (by simpa using e)]; omega
/-! ### what the defs promise -/
theorem txt_al : Str.ofString "1XZW" = txt Al := by decide +kernel
theorem all_al {cs : List Nat} (h : Al4 cs) : (cs.all fun c => decide (c ∈ Al)) = true := List.all_eq_true.mpr fun c hc => decide_eq_true (h c hc)
def spIsStr : Sp := fun vs H Q _ => ∃ ts : List Nat, vs = [tv ts] ∧ ts.length ≤ 1000 ∧ ∀ H', Same H H' → Q (.bl ((lettersL ts).all fun c => decide (c ∈ Al))) H'
def spChkS : Sp := fun vs H Q _ => ∃ ts : List Nat, vs = [tv ts] ∧ ts.length ≤ 1000 ∧ Al4 (lettersL ts) ∧ ∀ H', Same H H' → Q .non H'
def spTwo : Sp := fun vs H Q _ => ∃ (n : Nat) (x y : List Nat), vs = [tv x, tv y] ∧ n ≤ 900 ∧ Sn n x ∧ Sn n y ∧ ∀ H', Same H H' → Q (tv (two x y)) H'
def spMult : Sp := fun vs H Q _ => ∃ (n : Nat) (xss : List (List Nat)), vs = xss.map tv ∧ n ≤ 900 ∧ xss.length ≤ 20 ∧ (∀ x ∈ xss, Sn n x) ∧ ∀ H', Same H H' → Q (tv (multL xss)) H'
def spMultT : Sp := fun vs H Q _ => ∃ (p : Addr) (n : Nat) (xss : List (List Nat)), vs = [.ref p] ∧ H p = some (.tup (xss.map tv)) ∧ n ≤ 900 ∧ xss.length ≤ 20 ∧ (∀ x ∈ xss, Sn n x) ∧ ∀ H', Same H H' → Q (tv (multL xss)) H'
def spComm : Sp := fun vs H Q _ => ∃ (n : Nat) (x y : List Nat), vs = [tv x, tv y] ∧ n ≤ 900 ∧ Sn n x ∧ Sn n y ∧ ∀ H', Same H H' → Q (.bl (cmB x y)) H'
def spIden : Sp := fun vs H Q _ => ∃ n : Nat, vs = [.int ((n : Nat) : Int)] ∧ n ≤ 900 ∧ Q (tv (List.replicate n 49)) H
/-- the texts of the products of letters -/
def prodsL (as bs : List Nat) : List (List Nat) := List.zipWith pP as bs
theorem prods_at : ∀ {as bs : List Nat} {i a b : Nat}, as[i]? = some a → bs[i]? = some b → (prodsL as bs)[i]? = some (pP a b) := by
  intro as bs i a b ha hb
  unfold prodsL
  rw [List.getElem?_zipWith, ha, hb]
theorem prods_al : ∀ {as bs : List Nat}, Al4 as → Al4 bs → ∀ x ∈ prodsL as bs, ∃ a ∈ Al, ∃ b ∈ Al, x = pP a b
  | [], _, _, _, x, hx => by cases hx
  | _ :: _, [], _, _, x, hx => by cases hx
  | a :: as, b :: bs, ha, hb, x, hx => by
    rcases List.mem_cons.mp hx with rfl | hx
    · exact ⟨a, ha.head, b, hb.head, rfl⟩
    · exact prods_al ha.tail hb.tail x hx
theorem prods_sign : ∀ (as bs : List Nat), ((prodsL as bs).map signL).sum = zS as bs
  | [], _ => rfl
  | _ :: _, [] => rfl
  | a :: as, b :: bs => by
    rw [zS_cons, ← prods_sign as bs]
    show (signL (pP a b) :: (prodsL as bs).map signL).sum = _
    rw [List.sum_cons]; rfl
theorem prods_letters : ∀ (as bs : List Nat), Al4 as → Al4 bs → ((prodsL as bs).map lettersL).flatten = zL as bs
  | [], _, _, _ => rfl
  | _ :: _, [], _, _ => rfl
  | a :: as, b :: bs, ha, hb => by
    rw [zL_cons, ← prods_letters as bs ha.tail hb.tail]
    show lettersL (pP a b) ++ ((prodsL as bs).map lettersL).flatten = _
    rw [(p_form a ha.head b hb.head).1]
    rfl
theorem cutV_drop (xs : List V) (k : Nat) : cutV xs (some (k : Int)) none = xs.drop k := by
  unfold cutV
  rw [HT.sIx_none, HT.sIx_nat]
  by_cases h : k ≤ xs.length
  · rw [Nat.min_eq_left h]
    exact List.take_of_length_le (by rw [List.length_drop]; exact Nat.le_refl _)
  · rw [Nat.min_eq_right (by omega), List.drop_of_length_le (Nat.le_refl _), List.drop_of_length_le (l := xs) (by omega)]
    exact List.take_nil
theorem fold_snoc (r : List (List Nat)) (x y : List Nat) : (r ++ [y]).foldl two x = two (r.foldl two x) y := by rw [List.foldl_append]; rfl
theorem self_sign {n : Nat} {x : List Nat} (hx : Sn n x) : two x x = signedL ((x.count 87 : Nat) : Int) (List.replicate n 49) := by
  obtain ⟨s, cs, rfl, l, a⟩ := hx
  have e : (wd s cs).count 87 = cs.count 87 := by
    cases s with
    | false => rfl
    | true => exact List.count_cons_of_ne (by decide)
  rw [two_self a, e, signed_od, l]
theorem self_body {n : Nat} {x : List Nat} (hx : Sn n x) : lettersL (two x x) = List.replicate n 49 := by
  obtain ⟨s, cs, rfl, l, a⟩ := hx
  rw [two_self a, letters_wd (al_ones _).lt, l]
def spString : Sp := fun vs H Q _ => ∃ (b l : Addr) (n : Nat), vs = [.ref b, .int ((n : Nat) : Int)] ∧ Bag H b l ∧ n ≤ 900 ∧ ∀ H' x, Kp b H H' → Bag H' b l → Sn n x → Q (tv x) H'
theorem ne_no {a b : V} (h : a = b) : (!decide (a = b)) = false := by rw [decide_eq_true h]; rfl
def five : List Nat := [49, 49, 88, 90, 87]
theorem txt_five : Str.ofString "11XZW" = txt five := by decide +kernel
/-! ### the written table of products -/
def ptab : List (String × String) := [("11", "1"), ("1X", "X"), ("1Z", "Z"), ("1W", "W"), ("X1", "X"), ("XX", "1"), ("XZ", "W"), ("XW", "Z"), ("Z1", "Z"), ("ZX", "-W"), ("ZZ", "1"), ("ZW", "-X"), ("W1", "W"), ("WX", "-Z"), ("WZ", "X"), ("WW", "-1")]
theorem ptab_all : ∀ a ∈ Al, ∀ b ∈ Al, ∃ p ∈ ptab, Str.ofString p.1 = txt [a, b] ∧ Str.ofString p.2 = txt (pP a b) := by decide +kernel
theorem kd_all {K : PySem.W.Frag} {w : World} {pd : Addr} {es : Array DictEntry} {n : Nat} (there : K.lookup pd = some ⟨.type "dict", none, .dict es n, #[]⟩) (lit : PySem.W.KeysLit w.params es.toList)
    (rows : ∀ p ∈ ptab, ∃ t, PySem.W.nsIn K pd (Str.ofString p.1) = some (some (.str (Str.ofString p.2) t))) : ∀ a ∈ Al, ∀ b ∈ Al, KDct K w pd (txt [a, b]) (tv (pP a b)) := by
  intro a ha b hb
  obtain ⟨p, hp, e1, e2⟩ := ptab_all a ha b hb
  obtain ⟨t, row⟩ := rows p hp
  rw [e1, e2] at row
  exact ⟨es, n, _, there, lit, row, ⟨t, rfl⟩⟩
end Tm

/-! a written dict of sixteen texts -/
namespace Tm
open PySem PySem.Spec PyProof.Rows L2
/-- keys and values that are written texts -/
inductive Lits (X : Cx) : List (Option Expr) → List Expr → List (Str × Str) → Prop where
  | nil : Lits X [] [] []
  | cons {k v : Expr} {ks : List (Option Expr)} {vs : List Expr} {ps : List (Str × Str)} {a b : Str} (hk : PE X k (tC (.str a))) (hv : PE X v (tC (.str b))) (rest : Lits X ks vs ps) : Lits X (some k :: ks) (v :: vs) ((a, b) :: ps)
def kvT (p : Str × Str) : Key × V := (Sum.inr p.1, .str p.2)
theorem Lits.all {X : Cx} {ks : List (Option Expr)} {vs : List Expr} {ps : List (Str × Str)} (h : Lits X ks vs ps) : ks.all (·.isSome) = true ∧ ks.length = vs.length ∧ ks.length = ps.length := by
  induction h with
  | nil => exact ⟨rfl, rfl, rfl⟩
  | cons _ _ _ ih => exact ⟨by simpa using ih.1, by simp [ih.2.1], by rw [List.length_cons, List.length_cons, ih.2.2]⟩
theorem fill_lits {X : Cx} {pins : List (Addr × Obj)} {σ : L2.St} {d : Addr} {pos : Pos} {f : Sem Value × Sem Value → PUnit → Sem (ForInStep PUnit)}
    (form : ∀ k v, f (k, v) ⟨⟩ = (do let kv ← k; let vv ← holding [kv] v; holding [kv, vv] (dictSet d kv vv); pure (.yield ⟨⟩))) :
    ∀ {ks : List (Option Expr)} {vs : List Expr} {ps : List (Str × Str)}, Lits X ks vs ps → ∀ (kvs : List (Key × V)) (H : Hp) (s : Shared) (Q : PUnit → Shared → Prop), Inv X pins σ H s → H d = some (.dK kvs) → kvs.length + ps.length ≤ 1000 →
      (∀ s', Inv X pins σ (upd H d (.dK (mergeK kvs (ps.map kvT)))) s' → Q ⟨⟩ s') → wpAny (model X.prog X.w) X.A (forIn (pairTrees ks vs X.env pos) (⟨⟩ : PUnit) f) Q X.xe s := by
  intro ks vs ps lits
  induction lits with
  | nil =>
    intro kvs H s Q inv here _ hand
    apply wpAny_pure
    apply hand
    have e : upd H d (.dK (mergeK kvs (([] : List (Str × Str)).map kvT))) = H := by
      funext b
      by_cases z : b = d
      · subst z; rw [upd_same, here]; rfl
      · rw [upd_ne z]
    rw [e]
    exact inv
  | @cons k v ks vs ps a b hk hv rest ih =>
    intro kvs H s Q inv here few hand
    show wpAny _ _ (forIn ((eval k X.env, (do let x ← eval v X.env; standAt pos; pure x)) :: pairTrees ks vs X.env pos) _ f) _ _ _
    rw [List.forIn_cons, form]
    apply wpAny_bind
    apply wpAny_bind
    apply wpAny_mono (hk.run pins s σ H (fun x H' => x = .str a ∧ H' = H) inv ⟨rfl, rfl⟩) _ (fun _ _ raised => raised)
    rintro kv s1 ⟨x, H1, inv1, rel, rfl, rfl⟩
    rcases rel with ⟨t1, rfl⟩
    apply wpAny_bind
    apply wpAny_holding
    apply wpAny_bind
    apply wpAny_mono (hv.run pins s1 σ H1 (fun x H' => x = .str b ∧ H' = H1) inv1 ⟨rfl, rfl⟩) _ (fun _ _ raised => raised)
    rintro vv s2 ⟨x, H2, inv2, rel, rfl, rfl⟩
    apply wpAny_bind
    apply wpAny_standAt
    apply wpAny_pure
    apply wpAny_bind
    apply wpAny_holding
    obtain ⟨size, low, ws, pairs, dict⟩ := dk_of inv2.hok here
    rw [List.length_cons] at few
    apply wpAny_dictSet_pairs (knd := mixKind X.prog X.w) (k := Sum.inr a) (kV_is (k := Sum.inr a) ⟨t1, rfl⟩) dict _ (by rw [← pairs.length]; exact Nat.le_of_lt (small1000 (by omega)))
    intro h' dict' same
    apply wpAny_pure
    have len := length_putK kvs (Sum.inr a) (.str b)
    have inv3 : Inv X pins σ (upd H2 d (.dK (putK kvs (Sum.inr a) (.str b)))) { s2 with heap := h', toks := s2.toks + 1 } :=
      d_write inv2 (by rw [here]; trivial) same (by obtain ⟨o, _, _, there, _⟩ := dict'; exact ⟨o, there⟩) (dk_new (Nat.le_of_lt (small1000 (by omega))) low (pairs.put (Sum.inr a) rel) dict')
    apply ih _ _ _ _ inv3 upd_same (by omega)
    intro s' inv'
    apply hand
    have e : upd (upd H2 d (.dK (putK kvs (Sum.inr a) (.str b)))) d (.dK (mergeK (putK kvs (Sum.inr a) (.str b)) (ps.map kvT))) = upd H2 d (.dK (mergeK kvs (((a, b) :: ps).map kvT))) := by
      funext c
      by_cases z : c = d
      · subst z; rw [upd_same, upd_same]; rfl
      · rw [upd_ne z, upd_ne z, upd_ne z]
    rw [← e]
    exact inv'
theorem pe_disp16 {X : Cx} {pos : Pos} {ks : List (Option Expr)} {vs : List Expr} {ps : List (Str × Str)} (lits : Lits X ks vs ps) (len : ps.length = 16) :
    PE X (.Dict ks vs pos) (fun _ H Q => ∀ p, H p = none → Q (.ref p) (upd H p (.dK (mergeK [] (ps.map kvT))))) where
  run pins s σ H Q inv ask := by
    obtain ⟨some_, same, long⟩ := lits.all
    have n16 : (pairTrees ks vs X.env pos).length = 16 := by rw [pairTrees_length ks vs X.env pos some_ same, long, len]
    rw [arm_eval_Dict, zip_pairTrees ks vs X.env pos some_ same, dictDisplay_pairs _ (fun e => by rw [e] at n16; cases n16) (by omega)]
    apply wpAny_bind
    apply wpAny_standAt
    apply wpAny_bind
    unfold subDict
    apply wpAny_bind
    apply wpAny_alloc
    apply wpAny_bind
    apply wpAny_holding
    rw [if_neg (by omega)]
    apply wpAny_bind
    apply wpAny_rule
    have new := inv.hok.fresh (Nat.le_refl s.heap.objs.size)
    have inv1 := inv.laid (a := s.heap.objs.size) (o := .dK []) (h' := s.heap.push { cls := .type "dict", data := .dict #[] }) (t' := s.toks) (fun _ _ q => Heap.get?_push_of_some _ q) (Nat.le_refl _) (dk_empty s.heap inv.big)
    apply wpAny_bind
    apply fill_lits (fun _ _ => rfl) lits [] _ _ _ inv1 upd_same (by rw [len]; decide)
    intro s' inv'
    apply wpAny_pure
    apply wpAny_pure
    apply wpAny_pure
    have e : upd (upd H s.heap.objs.size (.dK [])) s.heap.objs.size (.dK (mergeK [] (ps.map kvT))) = upd H s.heap.objs.size (.dK (mergeK [] (ps.map kvT))) := by
      funext c
      by_cases z : c = s.heap.objs.size
      · subst z; rw [upd_same, upd_same]
      · rw [upd_ne z, upd_ne z, upd_ne z]
    rw [e] at inv'
    exact ⟨.ref _, _, inv', rfl, ask _ new⟩
end Tm

/-! the law's own table of products -/
namespace Tm
open PySem PySem.Spec PyProof.Rows L2
def ptabS : List (Str × Str) := ptab.map fun p => (Str.ofString p.1, Str.ofString p.2)
def tabKV : List (Key × V) := [49, 88, 90, 87].flatMap fun a => [49, 88, 90, 87].map fun b => (Sum.inr (txt [a, b]), tv (pP a b))
theorem tab_is : mergeK [] (ptabS.map kvT) = tabKV := by decide +kernel
theorem tab_at : ∀ a ∈ Al, ∀ b ∈ Al, valV tabKV (Sum.inr (txt [a, b])) = some (tv (pP a b)) := by decide +kernel
theorem p_last : ∀ a ∈ Al, ∀ b ∈ Al, atI (pP a b) (-1) = some (pL a b) := by decide +kernel
theorem p_pair : ∀ a ∈ Al, ∀ b ∈ Al, two [a] [b] = pP a b := by decide +kernel
theorem p_first : ∀ a ∈ Al, pL 49 a = a ∧ pS 49 a = 0 := by decide +kernel
theorem z_first : ∀ (as : List Nat), Al4 as → zL (List.replicate as.length 49) as = as ∧ zS (List.replicate as.length 49) as = 0
  | [], _ => ⟨rfl, rfl⟩
  | a :: as, ha => by
    have i := z_first as ha.tail
    have p := p_first a ha.head
    rw [List.length_cons, List.replicate_succ, zL_cons, zS_cons, i.1, i.2, p.1, p.2]
    exact ⟨rfl, rfl⟩
theorem one_two {n : Nat} {x : List Nat} (hx : Sn n x) : two (List.replicate n 49) x = x := by
  obtain ⟨s, as, rfl, la, ha⟩ := hx
  have e : List.replicate n 49 = wd false (List.replicate as.length 49) := by rw [la]; rfl
  rw [e, two_wd (al_ones _) ha, (z_first as ha).1, (z_first as ha).2]
  congr 1
  have e2 := od_bit s
  rw [← e2]
  apply od_eq
  cases s <;> rfl
theorem all_mult {n : Nat} {x : List Nat} (r : List (List Nat)) (hx : Sn n x) : (x :: r).foldl two (List.replicate n 49) = multL (x :: r) := by
  show r.foldl two (two (List.replicate n 49) x) = r.foldl two x
  rw [one_two hx]
def spTab : Sp := fun vs H Q _ => vs = [] ∧ ∀ H' p, Same H H' → H p = none → H' p = some (.dK tabKV) → Q (.ref p) H'
def spTAll (K : PySem.W.Frag) : Sp := fun vs H Q _ => ∃ (n : Nat) (a : Addr) (xss : List (List Nat)), vs = [.ref a, .int ((n : Nat) : Int)] ∧ SqL K H a (xss.map tv) ∧ n ≤ 900 ∧ xss.length ≤ 20 ∧ (∀ x ∈ xss, Sn n x) ∧ ∀ H', Same H H' → Q (tv (xss.foldl two (List.replicate n 49))) H'
theorem zL_take (as bs : List Nat) {i a b : Nat} (ha : as[i]? = some a) (hb : bs[i]? = some b) : (zL as bs).take (i + 1) = (zL as bs).take i ++ [pL a b] := by
  have e : (zL as bs)[i]? = some (pL a b) := by unfold zL; rw [List.getElem?_zipWith, ha, hb]
  rw [List.take_succ, e]; rfl
theorem zS_take (as bs : List Nat) {i a b : Nat} (ha : as[i]? = some a) (hb : bs[i]? = some b) : ((List.zipWith pS as bs).take (i + 1)).sum = ((List.zipWith pS as bs).take i).sum + pS a b := by
  have e : (List.zipWith pS as bs)[i]? = some (pS a b) := by rw [List.getElem?_zipWith, ha, hb]
  rw [List.take_succ, e, List.sum_append]; simp
/-! ### all pairs of letters -/
def prs (as : List Nat) : List (Nat × Nat) := as.flatMap fun a => Al.map fun b => (a, b)
theorem prs_snoc (as : List Nat) (a : Nat) : prs (as ++ [a]) = prs as ++ Al.map fun b => (a, b) := by
  unfold prs
  rw [List.flatMap_append]
  simp
theorem prs_mem {p : Nat × Nat} (h : p ∈ prs Al) : p.1 ∈ Al ∧ p.2 ∈ Al := (show ∀ p ∈ prs Al, p.1 ∈ Al ∧ p.2 ∈ Al by decide) p h
theorem prs_few : ∀ i, i ≤ 4 → (prs (Al.take i)).length = 4 * i := by decide
theorem dp_strs {K : PySem.W.Frag} {H : Hp} : ∀ zs : List Str, DpAll K H (zs.map V.str) (zs.map PyData.str)
  | [] => .nil
  | z :: r => .cons (.str z) (dp_strs r)
theorem cm_dec (x y : List Nat) : cmB x y = decide (tv (two x y) = tv (two y x)) := by
  unfold cmB
  apply decide_eq_decide.mpr
  exact ⟨fun e => congrArg tv e, fun e => txt_inj (V.str.inj e)⟩
theorem cm_swap (x y : List Nat) : cmB y x = decide (tv (two x y) = tv (two y x)) := by
  unfold cmB
  apply decide_eq_decide.mpr
  exact ⟨fun e => congrArg tv e.symm, fun e => (txt_inj (V.str.inj e)).symm⟩
theorem cm_self (x : List Nat) : cmB x x = true := decide_eq_true rfl
end Tm

namespace T25
open PySem PySem.Spec PyProof.Rows L2 Tm
def topS (i : Nat) : Stmt := PySem.Challenge.pw_threadmark_k25_values_of_words.main.body.getD i (.Pass ⟨0, 0, 0, 0⟩)
abbrev sBag : Stmt := topS 24
abbrev sPull : Stmt := topS 25
abbrev sOf : Stmt := topS 26
theorem scBag : FnScope ["_law_script", "_law_salt", "_law_cell"] ["_law_script"] (defScope sBag) := ⟨rfl, rfl, rfl, by decide +kernel, rfl, by decide +kernel, by decide +kernel⟩
theorem scPull : FnScope ["_law_bag_here", "_law_many", "_law_cell", "_law_digit", "_law_square"] ["_law_bag_here", "_law_many"] (defScope sPull) := ⟨rfl, rfl, rfl, by decide +kernel, rfl, by decide +kernel, by decide +kernel⟩
theorem scOf : FnScope ["_law_bag_here", "_law_things"] ["_law_bag_here", "_law_things"] (defScope sOf) := ⟨rfl, rfl, rfl, by decide +kernel, rfl, by decide +kernel, by decide +kernel⟩
section
variable {P : Program} {w : World} {K : PySem.W.Frag} {mg : Str → Option Value} {base : Heap}
theorem ok_bag {f : Addr} {fd : FuncData} (F : Fun K "_law_bag" "_law_bag" sBag f fd) (ml : mg "list" = none) : FnOk P w K mg base CX0 1 f fd ["_law_script"] (spBag K) := by
  refine F.ok scBag (fun vs H Q E h => ?_) (fun cdv A outer s H vs Q E hr h => ?_)
  · obtain ⟨a, ns, rfl, _⟩ := h
    rfl
  · obtain ⟨a, ns, rfl, hS, q⟩ := h
    refine ⟨_, pss_cons (ps_set (i := 1) scBag.nd rfl (.inl rfl) pe_int)
      (pss_cons (ps_for PassesOwn.never rfl (pi_list (pe_slice sl_list (pv 0) po_none (po_some pe_int))) (pg_name (i := 2) scBag.nd rfl (.inl rfl))
        (pss_one (ps_set (i := 1) scBag.nd rfl (.inl rfl) (pe_op op_mod (pe_op op_add (pe_op op_add (pe_op op_mul (pv 1) pe_int) (pe_op op_mod (pv 2) pe_int)) pe_int) pe_int))))
      (pss_one (ps_ret (pe_lst (pa_cons (pe_callTy call_list_of (by rfl) ml boot_list (pa_cons (pe_slice sl_list (pv 0) po_none (po_some pe_int)) pa_nil)) (pa_cons pe_int (pa_cons pe_int (pa_cons (pv 1) pa_nil)))))))), ?_⟩
    refine ⟨.ref a, rfl, 63, rfl, a, ns.map V.int, rfl, hS, fun p np => ?_⟩
    have s1 : Same H (upd H p (.lst (cutV (ns.map V.int) none (some 63)))) := same_upd np
    refine ⟨p, rfl, ⟨_, .inl (.inl upd_same)⟩, for_list (K := K) (a := p) (xs := cutV (ns.map V.int) none (some 63))
      (fun i σ H' => ∃ (z : Int) (y : Option V), σ = [some (.ref a), some (.int z), y] ∧ 0 ≤ z ∧ z < 2147483549 ∧ H' = upd H p (.lst (cutV (ns.map V.int) none (some 63)))) ⟨3808, none, rfl, by decide, by decide, rfl⟩
      (fun i σ H' _ ⟨_, _, _, _, _, e⟩ => by rw [e]; exact .inl (.inl upd_same)) ?_ ?_⟩
    · rintro i y σ H' hi ⟨z, y0, rfl, h0, h1, rfl⟩
      obtain ⟨u, rfl⟩ := cut_int hi
      refine ⟨_, rfl, _, _, rfl, rfl, .inl ⟨by omega, by omega⟩, _, rfl, _, _, rfl, rfl, (by dsimp only; decide), _, _, rfl, rfl, _, _, rfl, rfl, _, _, rfl, rfl, (by dsimp only; decide), ?_⟩
      refine ⟨_, _, rfl, Int.emod_nonneg _ (by decide), Int.emod_lt_of_pos _ (by decide), rfl⟩
    · rintro σ H' ⟨z, y0, rfl, h0, h1, rfl⟩
      refine ⟨.ref a, rfl, 63, rfl, a, ns.map V.int, rfl, s1.seq hS, fun p2 np2 => ?_⟩
      refine ⟨p2, _, rfl, .inl (.inl (.inl upd_same)), fun l nl => ?_⟩
      refine ⟨.int z, rfl, (by show 4 ≤ sizeLine; decide), fun b nb => ?_⟩
      have e2 := (same_upd (o := .lst (cutV (ns.map V.int) none (some 63))) np2)
      have e3 := (same_upd (o := .lst (cutV (ns.map V.int) none (some 63))) nl)
      have e4 := (same_upd (o := .lst [.ref l, .int 0, .int 0, .int z]) nb)
      have f4 := ((s1.trans e2).trans e3).free nb
      have f3 := (s1.trans e2).free nl
      obtain ⟨ms, em⟩ := cut_ints ns none (some 63)
      refine q _ b l (((s1.trans e2).trans e3).trans e4) f4 f3 ⟨ms, 0, 0, z, upd_same, ?_, by decide, by decide, h0, h1⟩
      rw [← em]
      exact e4 _ _ upd_same

theorem ok_pull {f : Addr} {fd : FuncData} (F : Fun K "_law_pull" "_law_pull" sPull f fd) (ml : mg "len" = none) : FnOk P w K mg base CX0 1 f fd ["_law_bag_here", "_law_many"] spPull := by
  refine F.ok scPull (fun vs H Q E h => ?_) (fun cdv A outer s H vs Q E hr h => ?_)
  · obtain ⟨b, l, m, rfl, _⟩ := h
    rfl
  · obtain ⟨b, l, m, rfl, B, hm0, hm1, q⟩ := h
    refine ⟨_, pss_cons (ps_if (PW.pt (pw_and (pt_cmpR op_lt (pe_ix ix_list (pv 0) pe_int (fun _ _ => rfl)) (pv 1) (nomark _)) (pw_and1 (pt_cmpR op_lt (pe_ix ix_list (pv 0) pe_int (fun _ _ => rfl)) (pe_callB call_len_seq (by rfl) ml PySem.boot_len (pa_cons (pe_ix ix_list (pv 0) pe_int (fun _ _ => rfl)) pa_nil)) (nomark _)))))
        (pss_cons (ps_set (i := 2) scPull.nd rfl (.inl rfl) (pe_ix ix_list (pe_ix ix_list (pv 0) pe_int (fun _ _ => rfl)) (pe_ix ix_list (pv 0) pe_int (fun _ _ => rfl)) (fun _ _ => rfl)))
        (pss_cons (ps_asg (pe_op op_add (pe_ix ix_list (pv 0) pe_int (fun _ _ => rfl)) pe_int) (pg_sub (pv 0) pe_int set_list))
        (pss_cons (ps_asg pe_int (pg_sub (pv 0) pe_int set_list))
        (pss_one (ps_if (pt_cmpR op_ge (pv 2) (pe_op op_pow pe_int pe_int) (nomark _)) (pss_one (ps_asg (pv 2) (pg_sub (pv 0) pe_int set_list)))
          (pss_one (ps_asg (pe_op op_mod (pe_op op_add (pe_op op_add (pe_op op_mul (pe_ix ix_list (pv 0) pe_int (fun _ _ => rfl)) pe_int) (pe_op op_mul (pe_op op_mod (pv 2) pe_int) pe_int)) pe_int) pe_int) (pg_sub (pv 0) pe_int set_list))))))))
        pss_nil)
      (pss_cons (ps_if (pt_cmpR op_ge (pe_ix ix_list (pv 0) pe_int (fun _ _ => rfl)) (pv 1) (nomark _))
        (pss_cons (ps_set (i := 3) scPull.nd rfl (.inl rfl) (pe_op op_mod (pe_ix ix_list (pv 0) pe_int (fun _ _ => rfl)) (pv 1)))
        (pss_cons (ps_asg (pe_op op_fdiv (pe_ix ix_list (pv 0) pe_int (fun _ _ => rfl)) (pv 1)) (pg_sub (pv 0) pe_int set_list))
        (pss_one (ps_ret (pv 3))))) pss_nil)
      (pss_cons (ps_set (i := 4) scPull.nd rfl (.inl rfl) (pe_op op_mod (pe_op op_mul (pe_ix ix_list (pv 0) pe_int (fun _ _ => rfl)) (pe_ix ix_list (pv 0) pe_int (fun _ _ => rfl))) pe_int))
      (pss_cons (ps_asg (pe_op op_mod (pe_op op_add (pe_op op_add (pe_op op_mul (pv 4) pe_int) (pe_op op_mul (pe_ix ix_list (pv 0) pe_int (fun _ _ => rfl)) pe_int)) pe_int) pe_int) (pg_sub (pv 0) pe_int set_list))
      (pss_one (ps_ret (pe_op op_mod (pe_op op_add (pe_op op_fdiv (pe_ix ix_list (pv 0) pe_int (fun _ _ => rfl)) pe_int) (pe_op op_mul (pe_op op_mod (pe_ix ix_list (pv 0) pe_int (fun _ _ => rfl)) pe_int) pe_int)) (pv 1))))))), ?_⟩
    refine cut (fun σ' H' => ∃ y, σ' = [some (.ref b), some (.int m), y, none, none] ∧ Bag H' b l ∧ Kp b H H') (fun σ1 H1 hp => ?tail) (fun N hN => ?head)
    case head =>
      obtain ⟨xs, i, n, z, hb, hl, i0, n0, z0, z1⟩ := id B
      have nlb := bag_ne hb hl
      refine ⟨_, rfl, b, _, 2, .int n, rfl, rfl, SqL.of hb, rfl, _, rfl, _, _, rfl, rfl, _, rfl, ite2 (fun hlt => ?_) (fun _ => ?_)⟩
      · refine ⟨_, rfl, b, _, 1, .int i, rfl, rfl, SqL.of hb, rfl, _, rfl, b, _, 0, .ref l, rfl, rfl, SqL.of hb, rfl, l, _, rfl, .inl (SqL.of hl), _, _, rfl, rfl, _, rfl, ite2 (fun hlt2 => ?_) (fun _ => ?_)⟩
        · have hi : i < ((xs.map V.int).length : Int) := of_decide_eq_true hlt2
          rw [List.length_map] at hi
          obtain ⟨j, rfl⟩ : ∃ j : Nat, i = j := ⟨i.toNat, by omega⟩
          have hj : j < xs.length := by omega
          have gj : (xs.map V.int)[j]? = some (.int xs[j]) := by
            rw [List.getElem?_map, List.getElem?_eq_getElem hj]; rfl
          generalize xs[j] = c at gj
          refine ⟨_, rfl, b, _, 0, .ref l, rfl, rfl, SqL.of hb, rfl, _, rfl, b, _, 1, .int j, rfl, rfl, SqL.of hb, rfl, l, _, j, .int c, rfl, rfl, SqL.of hl, atI_nat gj, ?_⟩
          refine ⟨_, rfl, b, _, 1, .int j, rfl, rfl, SqL.of hb, rfl, _, _, rfl, rfl, _, rfl, b, _, 1, 1, rfl, rfl, hb, rfl, ?_⟩
          refine ⟨_, rfl, b, _, 2, 2, rfl, rfl, upd_same, rfl, ?_⟩
          rw [upd_upd]
          refine ⟨_, rfl, _, _, rfl, rfl, ⟨by decide, by decide, by decide⟩, _, _, rfl, rfl, _, rfl, ite2 (fun hge => ?_) (fun _ => ?_)⟩
          · refine ⟨_, rfl, _, rfl, b, _, 2, 2, rfl, rfl, upd_same, rfl, ?_⟩
            rw [upd_upd]
            refine hN _ _ ⟨_, rfl, ⟨xs, _, _, _, upd_same, by rw [upd_ne nlb]; exact hl, by omega, ?_, z0, z1⟩, Kp.set⟩
            have e := of_decide_eq_true hge
            have e2 : (0 : Int) ≤ 10 ^ (18 : Int).toNat := by decide
            omega
          · refine ⟨_, rfl, b, _, 3, .int z, rfl, rfl, SqL.of upd_same, rfl, _, _, rfl, rfl, .inl ⟨by omega, by omega⟩, _, rfl, _, _, rfl, rfl, (by dsimp only; decide), _, _, rfl, rfl, .inr ⟨by decide, by decide⟩, _, _, rfl, rfl, _, _, rfl, rfl, _, _, rfl, rfl, (by dsimp only; decide), _, rfl, b, _, 3, 3, rfl, rfl, upd_same, rfl, ?_⟩
            rw [upd_upd]
            exact hN _ _ ⟨_, rfl, ⟨xs, _, _, _, upd_same, by rw [upd_ne nlb]; exact hl, by omega, by decide, Int.emod_nonneg _ (by decide), Int.emod_lt_of_pos _ (by decide)⟩, Kp.set⟩
        · exact hN _ _ ⟨_, rfl, B, Kp.refl _ _⟩
      · exact hN _ _ ⟨_, rfl, B, Kp.refl _ _⟩
    case tail =>
      obtain ⟨y, rfl, ⟨xs, i, n, z, hb, hl, i0, n0, z0, z1⟩, kp⟩ := hp
      have nlb := bag_ne hb hl
      refine ⟨_, rfl, b, _, 2, .int n, rfl, rfl, SqL.of hb, rfl, _, rfl, _, _, rfl, rfl, _, rfl, ite2 (fun hge => ?_) (fun _ => ?_)⟩
      · refine ⟨_, rfl, b, _, 2, .int n, rfl, rfl, SqL.of hb, rfl, _, rfl, _, _, rfl, rfl, hm0, ?_⟩
        refine ⟨_, rfl, b, _, 2, .int n, rfl, rfl, SqL.of hb, rfl, _, rfl, _, _, rfl, rfl, ⟨hm0, hm1⟩, _, rfl, b, _, 2, 2, rfl, rfl, hb, rfl, ?_⟩
        refine ⟨_, rfl, ?_⟩
        exact q _ _ (kp.trans Kp.set) ⟨xs, _, _, _, upd_same, by rw [upd_ne nlb]; exact hl, i0, Int.ediv_nonneg n0 (by omega), z0, z1⟩ (Int.emod_nonneg _ (by omega)) (Int.emod_lt_of_pos _ hm0)
      · refine ⟨_, rfl, b, _, 3, .int z, rfl, rfl, SqL.of hb, rfl, _, rfl, b, _, 3, .int z, rfl, rfl, SqL.of hb, rfl, _, _, rfl, rfl, .inl ⟨by omega, by omega⟩, _, _, rfl, rfl, (by dsimp only; decide), ?_⟩
        have w0 : 0 ≤ z * z % 2147483549 := Int.emod_nonneg _ (by decide)
        have w1 : z * z % 2147483549 < 2147483549 := Int.emod_lt_of_pos _ (by decide)
        refine ⟨_, rfl, _, _, rfl, rfl, .inl ⟨by omega, by omega⟩, _, rfl, b, _, 3, .int z, rfl, rfl, SqL.of hb, rfl, _, _, rfl, rfl, .inl ⟨by omega, by omega⟩, _, _, rfl, rfl, _, _, rfl, rfl, _, _, rfl, rfl, (by dsimp only; decide), _, rfl, b, _, 3, 3, rfl, rfl, hb, rfl, ?_⟩
        refine ⟨_, rfl, b, _, 3, _, rfl, rfl, SqL.of upd_same, rfl, _, _, rfl, rfl, ⟨by decide, by decide⟩, _, rfl, b, _, 3, _, rfl, rfl, SqL.of upd_same, rfl, _, _, rfl, rfl, (by dsimp only; decide), _, _, rfl, rfl, .inr ⟨by decide, by decide⟩, _, _, rfl, rfl, _, rfl, _, _, rfl, rfl, hm0, ?_⟩
        exact q _ _ (kp.trans Kp.set) ⟨xs, _, _, _, upd_same, by rw [upd_ne nlb]; exact hl, i0, n0, Int.emod_nonneg _ (by decide), Int.emod_lt_of_pos _ (by decide)⟩ (Int.emod_nonneg _ (by omega)) (Int.emod_lt_of_pos _ hm0)
end

abbrev sMixed : Stmt := topS 27
theorem scMixed : FnScope ["_law_bag_here", "_law_things", "_law_left", "_law_found", "_law_turn"] ["_law_bag_here", "_law_things"] (defScope sMixed) := ⟨rfl, rfl, rfl, by decide +kernel, rfl, by decide +kernel, by decide +kernel⟩
section
variable {P : Program} {w : World} {K : PySem.W.Frag} {mg : Str → Option Value} {base : Heap}
theorem ok_of {f fP : Addr} {fd fdP : FuncData} (F : Fun K "_law_of" "_law_of" sOf f fd) (FP : Fun K "_law_pull" "_law_pull" sPull fP fdP) (bP : Binds K fdP ["_law_bag_here", "_law_many"] []) (gP : mg "_law_pull" = some (.ref fP)) (ml : mg "len" = none) : FnOk P w K mg base CX0 2 f fd ["_law_bag_here", "_law_things"] (spOf K) := by
  have GP : FnOk P w K mg base CX0 1 fP fdP ["_law_bag_here", "_law_many"] spPull := ok_pull FP ml
  refine F.ok scOf (fun vs H Q E h => ?_) (fun cdv A outer s H vs Q E hr h => ?_)
  · obtain ⟨b, l, t, xs, rfl, _⟩ := h
    rfl
  · obtain ⟨b, l, t, xs, rfl, B, hT, h0, h1, q⟩ := h
    refine ⟨_, pss_one (ps_ret (pe_ix ix_seq (pv 1) (pe_call GP hr (by rfl) gP FP.kp bP .nil pass0 (pa_cons (pv 0) (pa_cons (pe_callB call_len (by rfl) ml PySem.boot_len (pa_cons (pv 1) pa_nil)) pa_nil))) (fun _ _ => rfl))), ?_⟩
    rcases hT with ⟨a, rfl, nab, hS⟩ | ⟨z, rfl, hz, rfl⟩
    · refine ⟨_, rfl, _, rfl, _, rfl, _, _, rfl, .inl ⟨_, hS, rfl⟩, b, l, _, rfl, B, by omega, by omega, fun H' d kp B' d0 d1 => ?_⟩
      obtain ⟨j, rfl⟩ : ∃ j : Nat, d = j := ⟨d.toNat, by omega⟩
      have hj : j < xs.length := by omega
      exact .inl ⟨a, xs, _, xs[j], rfl, rfl, kp.seq nab hS, atI_nat (List.getElem?_eq_getElem hj), q _ _ kp B' (List.getElem_mem hj)⟩
    · rw [List.length_map, Array.length_toList] at h0 h1
      refine ⟨_, rfl, _, rfl, _, rfl, _, _, rfl, ⟨hz, rfl⟩, b, l, _, rfl, B, ?_, ?_, fun H' d kp B' d0 d1 => ?_⟩
      · show (0 : Int) < ((z.cps.size : Nat) : Int)
        omega
      · show ((z.cps.size : Nat) : Int) < 1073741824
        omega
      · have d2 : d < ((z.cps.size : Nat) : Int) := d1
        obtain ⟨j, rfl⟩ : ∃ j : Nat, d = j := ⟨d.toNat, by omega⟩
        have hj : j < z.cps.toList.length := by rw [Array.length_toList]; omega
        refine .inr (.inr ⟨z, _, z.cps.toList[j], rfl, rfl, hz, atI_nat (List.getElem?_eq_getElem hj), q _ _ kp B' ?_⟩)
        exact List.mem_map.mpr ⟨_, List.getElem_mem hj, rfl⟩
theorem ok_mixed {f fP : Addr} {fd fdP : FuncData} (F : Fun K "_law_mixed" "_law_mixed" sMixed f fd) (FP : Fun K "_law_pull" "_law_pull" sPull fP fdP) (bP : Binds K fdP ["_law_bag_here", "_law_many"] []) (gP : mg "_law_pull" = some (.ref fP)) (ml : mg "len" = none)
    (mli : mg "list" = none) (mr : mg "range" = none) : FnOk P w K mg base CX0 2 f fd ["_law_bag_here", "_law_things"] (spMixed K) := by
  have GP : FnOk P w K mg base CX0 1 fP fdP ["_law_bag_here", "_law_many"] spPull := ok_pull FP ml
  refine F.ok scMixed (fun vs H Q E h => ?_) (fun cdv A outer s H vs Q E hr h => ?_)
  · obtain ⟨b, l, a, xs, rfl, _⟩ := h
    rfl
  · obtain ⟨b, l, a, xs, rfl, B, nab, hS, hlen, q⟩ := h
    refine ⟨_, pss_cons (ps_par (i := 2) (j := 3) (by rfl) scMixed.nd rfl rfl (by decide) rfl rfl (pa_cons (pe_callTy call_list_of (by rfl) mli boot_list (pa_cons (pv 1) pa_nil)) (pa_cons (pe_lst pa_nil) pa_nil)) (by rfl))
      (pss_cons (ps_for PassesOwn.never rfl (pi_range1 (by rfl) mr (pa_cons (pe_callB call_len_seq (by rfl) ml PySem.boot_len (pa_cons (pv 1) pa_nil)) pa_nil)) (pg_name (i := 4) scMixed.nd rfl (.inl rfl))
        (pss_one (ps_expr (pe_bm PySem.F.plainAttrs_list PySem.F.slot_list_append PySem.F.type_list_append mt_append (pv 3) (pa_cons (pe_bm PySem.F.plainAttrs_list PySem.F.slot_list_pop PySem.F.type_list_pop mt_popAt (pv 2)
          (pa_cons (pe_call GP hr (by rfl) gP FP.kp bP .nil pass0 (pa_cons (pv 0) (pa_cons (pe_callB call_len_seq (by rfl) ml PySem.boot_len (pa_cons (pv 2) pa_nil)) pa_nil))) pa_nil)) pa_nil)))))
      (pss_one (ps_ret (pv 3)))), ?_⟩
    refine ⟨_, rfl, a, xs, rfl, .inl hS, fun p np => ⟨Nat.zero_le _, fun o no => ⟨_, _, rfl, ?_⟩⟩⟩
    have npo : p ≠ o := fun e => by rw [e] at no; rw [← e, upd_same] at no; cases no
    have no0 : H o = none := by rw [upd_ne npo.symm] at no; exact no
    have k2 : Kp b H (upd (upd H p (.lst xs)) o (.lst [])) := (Kp.new np).put no0
    have B2 : Bag (upd (upd H p (.lst xs)) o (.lst [])) b l := (B.new np).put (B.nb no0) (B.nl no0)
    have ea : (((xs.length : Nat) : Int)).toNat = xs.length := by omega
    refine ⟨_, rfl, a, xs, rfl, .inl (k2.seq nab hS), _, rfl, by omega, by omega, ?_⟩
    rw [ea]
    refine for_range (lo := 0) (n := xs.length) (fun i σ H' => ∃ (ys zs : List V) (y : Option V), σ = [some (.ref b), some (.ref a), some (.ref p), some (.ref o), y] ∧ Kp b H H' ∧ Bag H' b l ∧ H' p = some (.lst zs) ∧ H' o = some (.lst ys) ∧ (ys ++ zs).Perm xs ∧ ys.length = i)
      ⟨[], xs, none, rfl, k2, B2, by rw [upd_ne npo, upd_same], upd_same, .refl _, rfl⟩ ?_ ?_
    · rintro i σ H' hi ⟨ys, zs, y, rfl, kp, B', hp, ho, pm, hy⟩
      have hzl : ys.length + zs.length = xs.length := by
        have e := pm.length_eq
        rw [List.length_append] at e
        exact e
      refine ⟨_, rfl, .inl ⟨rfl, _, SqL.of ho⟩, _, rfl, .inl ⟨rfl, _, SqL.of hp⟩, _, rfl, _, rfl, p, zs, rfl, .inl (SqL.of hp), b, l, _, rfl, B', by omega, by omega, fun H1 d kp1 B1 d0 d1 => ?_⟩
      obtain ⟨j, rfl⟩ : ∃ j : Nat, d = j := ⟨d.toNat, by omega⟩
      have hj : j < zs.length := by omega
      have hp1 : H1 p = some (.lst zs) := kp1 _ _ (B.nb np) hp
      have ho1 : H1 o = some (.lst ys) := kp1 _ _ (B.nb no0) ho
      refine ⟨p, zs, _, j, zs[j], rfl, rfl, hp1, by omega, by omega, ?_, List.getElem?_eq_getElem hj, ?_⟩
      · exact (ixN_seq (n := zs.length) (i := (j : Int)) (j := j) (by unfold ixN; rw [if_pos (by omega), if_pos (by omega)]; rfl)).1
      · refine ⟨o, _, _, rfl, rfl, by rw [upd_ne npo.symm]; exact ho1, small1000 (by omega), ?_⟩
        refine ⟨ys ++ [zs[j]], zs.eraseIdx j, _, rfl, ((kp.trans kp1).put np).put no0, (B1.put (B.nb np) (B.nl np)).put (B.nb no0) (B.nl no0), ?_, upd_same, ?_, ?_⟩
        · rw [upd_ne npo, upd_same]
        · refine List.Perm.trans ?_ pm
          rw [List.append_assoc]
          exact List.Perm.append_left _ (erasePm zs j hj)
        · rw [List.length_append, hy]; rfl
    · rintro σ H' ⟨ys, zs, y, rfl, kp, B', hp, ho, pm, hy⟩
      have e0 : zs = [] := by
        have e := pm.length_eq
        rw [List.length_append] at e
        exact List.eq_nil_of_length_eq_zero (by omega)
      subst e0
      rw [List.append_nil] at pm
      exact ⟨_, rfl, q _ o ys kp B' no0 ho pm⟩
end

abbrev sSame : Stmt := topS 28
theorem scSame : FnScope ["_law_found", "_law_due", "_law_one", "_law_other"] ["_law_found", "_law_due"] (defScope sSame) := ⟨rfl, rfl, rfl, by decide +kernel, rfl, by decide +kernel, by decide +kernel⟩
structure SameT (mg : Str → Option Value) : Prop where
  isi : mg "isinstance" = none
  dict : mg "dict" = none
  list : mg "list" = none
  tuple : mg "tuple" = none
  bool : mg "bool" = none
  int : mg "int" = none
  str : mg "str" = none
  len : mg "len" = none
  all : mg "all" = none
  zip : mg "zip" = none
section
variable {P : Program} {w : World} {K : PySem.W.Frag} {mg : Str → Option Value} {base : Heap}
theorem ok_same0 {f : Addr} {fd : FuncData} (F : Fun K "_law_same" "_law_same" sSame f fd) (T : SameT mg) : FnOk P w K mg base CX0 (0 + 1) f fd ["_law_found", "_law_due"] (spSame (0)) := by
  refine F.ok scSame (fun vs H Q E h => ?_) (fun cdv A outer s H vs Q E hr h => ?_)
  · obtain ⟨x, y, rfl, _⟩ := h
    rfl
  · obtain ⟨x, y, rfl, he, q⟩ := h
    refine ⟨_, pss_cons (ps_if (PW.pt (pw_or (pt_cmpR op_isN (pv 1) pe_non (nomark _)) (pw_or1 (pt_cmpR op_isN (pv 0) pe_non (nomark _))))) (pss_one (ps_ret (pe_and (pe_cmpR op_isN (pv 0) pe_non (nomark _)) (pe_one (pe_cmpR op_isN (pv 1) pe_non (nomark _)))))) pss_nil)
      (pss_cons (ps_if (pt_val (pe_callB call_isi (by rfl) T.isi boot_isinstance (pa_cons (pv 1) (pa_cons (pe_bltn (v := .ty "dict") (by rfl) T.dict (by decide +kernel) rfl) pa_nil)))) pss_never pss_nil)
      (pss_cons (ps_if (pt_val (pe_callB call_isiT (by rfl) T.isi boot_isinstance (pa_cons (pv 1) (pa_cons (pe_tup (pa_cons (pe_bltn (v := .ty "list") (by rfl) T.list (by decide +kernel) rfl) (pa_cons (pe_bltn (v := .ty "tuple") (by rfl) T.tuple (by decide +kernel) rfl) pa_nil))) pa_nil)))) pss_never pss_nil)
      (pss_cons (ps_if (PW.pt (pw_or (pt_cmpR op_ne (pe_callB call_isi (by rfl) T.isi boot_isinstance (pa_cons (pv 0) (pa_cons (pe_bltn (v := .ty "bool") (by rfl) T.bool (by decide +kernel) rfl) pa_nil))) (pe_callB call_isi (by rfl) T.isi boot_isinstance (pa_cons (pv 1) (pa_cons (pe_bltn (v := .ty "bool") (by rfl) T.bool (by decide +kernel) rfl) pa_nil))) (nomark _))
          (pw_or1 (pt_cmpR op_ne (pe_callB call_isi (by rfl) T.isi boot_isinstance (pa_cons (pv 0) (pa_cons (pe_bltn (v := .ty "int") (by rfl) T.int (by decide +kernel) rfl) pa_nil))) (pe_callB call_isi (by rfl) T.isi boot_isinstance (pa_cons (pv 1) (pa_cons (pe_bltn (v := .ty "int") (by rfl) T.int (by decide +kernel) rfl) pa_nil))) (nomark _))))) pss_never pss_nil)
      (pss_one (ps_ret (pe_and (pe_cmpR op_eq (pe_callB call_isi (by rfl) T.isi boot_isinstance (pa_cons (pv 0) (pa_cons (pe_bltn (v := .ty "str") (by rfl) T.str (by decide +kernel) rfl) pa_nil))) (pe_callB call_isi (by rfl) T.isi boot_isinstance (pa_cons (pv 1) (pa_cons (pe_bltn (v := .ty "str") (by rfl) T.str (by decide +kernel) rfl) pa_nil))) (nomark _)) (pe_one (pe_cmpR op_eq (pv 0) (pv 1) (nomark _))))))))), ?_⟩
    rcases he with _ | ⟨_, bb⟩ | ⟨_, i⟩ | ⟨_, z⟩
    · refine ⟨_, rfl, rfl, _, rfl, iteT ⟨_, rfl, rfl, _, rfl, ifT rfl ⟨_, rfl, rfl, ?_⟩⟩⟩
      exact q _ (Same.refl _)
    · refine ⟨_, rfl, rfl, _, rfl, ifF (decide_eq_false (by intro e; cases e)) ⟨_, rfl, rfl, _, rfl, ifF (decide_eq_false (by intro e; cases e)) ?_⟩⟩
      refine ⟨_, rfl, _, _, _, _, false, rfl, .ty "dict", .base (.bl bb), kit_ty (by decide +kernel), _, rfl, iteF ?_⟩
      refine ⟨_, rfl, (by show 2 ≤ sizeLine; decide), fun t ht => ⟨_, t, _, _, [.type "list", .type "tuple"], false, rfl, upd_same, .cons (.ty _) (.cons (.ty _) .nil), .base (.bl bb), kit_list (by decide +kernel) (fun _ => by decide +kernel), _, rfl, iteF ?_⟩⟩
      refine ⟨_, rfl, _, _, _, _, true, rfl, .ty "bool", .base (.bl bb), kit_ty (by decide +kernel), _, rfl, _, _, _, _, true, rfl, .ty "bool", .base (.bl bb), kit_ty (by decide +kernel), rfl, _, rfl, ifF (by decide) ⟨_, rfl, _, _, _, _, true, rfl, .ty "int", .base (.bl bb), kit_ty (by decide +kernel), _, rfl, _, _, _, _, true, rfl, .ty "int", .base (.bl bb), kit_ty (by decide +kernel), rfl, _, rfl, ifF (by decide) ?_⟩⟩
      refine ⟨_, rfl, _, _, _, _, false, rfl, .ty "str", .base (.bl bb), kit_ty (by decide +kernel), _, rfl, _, _, _, _, false, rfl, .ty "str", .base (.bl bb), kit_ty (by decide +kernel), rfl, _, rfl, ifT (by decide) ⟨_, rfl, _, rfl, rfl, ?_⟩⟩
      rw [decide_eq_true rfl]
      exact q _ (same_upd ht)
    · refine ⟨_, rfl, rfl, _, rfl, ifF (decide_eq_false (by intro e; cases e)) ⟨_, rfl, rfl, _, rfl, ifF (decide_eq_false (by intro e; cases e)) ?_⟩⟩
      refine ⟨_, rfl, _, _, _, _, false, rfl, .ty "dict", .base (.int i), kit_ty (by decide +kernel), _, rfl, iteF ?_⟩
      refine ⟨_, rfl, (by show 2 ≤ sizeLine; decide), fun t ht => ⟨_, t, _, _, [.type "list", .type "tuple"], false, rfl, upd_same, .cons (.ty _) (.cons (.ty _) .nil), .base (.int i), kit_list (by decide +kernel) (fun _ => by decide +kernel), _, rfl, iteF ?_⟩⟩
      refine ⟨_, rfl, _, _, _, _, false, rfl, .ty "bool", .base (.int i), kit_ty (by decide +kernel), _, rfl, _, _, _, _, false, rfl, .ty "bool", .base (.int i), kit_ty (by decide +kernel), rfl, _, rfl, ifF (by decide) ⟨_, rfl, _, _, _, _, true, rfl, .ty "int", .base (.int i), kit_ty (by decide +kernel), _, rfl, _, _, _, _, true, rfl, .ty "int", .base (.int i), kit_ty (by decide +kernel), rfl, _, rfl, ifF (by decide) ?_⟩⟩
      refine ⟨_, rfl, _, _, _, _, false, rfl, .ty "str", .base (.int i), kit_ty (by decide +kernel), _, rfl, _, _, _, _, false, rfl, .ty "str", .base (.int i), kit_ty (by decide +kernel), rfl, _, rfl, ifT (by decide) ⟨_, rfl, _, rfl, rfl, ?_⟩⟩
      rw [decide_eq_true rfl]
      exact q _ (same_upd ht)
    · refine ⟨_, rfl, rfl, _, rfl, ifF (decide_eq_false (by intro e; cases e)) ⟨_, rfl, rfl, _, rfl, ifF (decide_eq_false (by intro e; cases e)) ?_⟩⟩
      refine ⟨_, rfl, _, _, _, _, false, rfl, .ty "dict", .base (.str z), kit_ty (by decide +kernel), _, rfl, iteF ?_⟩
      refine ⟨_, rfl, (by show 2 ≤ sizeLine; decide), fun t ht => ⟨_, t, _, _, [.type "list", .type "tuple"], false, rfl, upd_same, .cons (.ty _) (.cons (.ty _) .nil), .base (.str z), kit_list (by decide +kernel) (fun _ => by decide +kernel), _, rfl, iteF ?_⟩⟩
      refine ⟨_, rfl, _, _, _, _, false, rfl, .ty "bool", .base (.str z), kit_ty (by decide +kernel), _, rfl, _, _, _, _, false, rfl, .ty "bool", .base (.str z), kit_ty (by decide +kernel), rfl, _, rfl, ifF (by decide) ⟨_, rfl, _, _, _, _, false, rfl, .ty "int", .base (.str z), kit_ty (by decide +kernel), _, rfl, _, _, _, _, false, rfl, .ty "int", .base (.str z), kit_ty (by decide +kernel), rfl, _, rfl, ifF (by decide) ?_⟩⟩
      refine ⟨_, rfl, _, _, _, _, true, rfl, .ty "str", .base (.str z), kit_ty (by decide +kernel), _, rfl, _, _, _, _, true, rfl, .ty "str", .base (.str z), kit_ty (by decide +kernel), rfl, _, rfl, ifT (by decide) ⟨_, rfl, _, rfl, rfl, ?_⟩⟩
      rw [decide_eq_true rfl]
      exact q _ (same_upd ht)
theorem ok_sameS {f : Addr} {fd : FuncData} {n : Nat} (G : FnOk P w K mg base CX0 (n + 1) f fd ["_law_found", "_law_due"] (spSame n)) (gS : mg "_law_same" = some (.ref f)) (bS : Binds K fd ["_law_found", "_law_due"] []) (F : Fun K "_law_same" "_law_same" sSame f fd) (T : SameT mg) : FnOk P w K mg base CX0 (n + 1 + 1) f fd ["_law_found", "_law_due"] (spSame (n + 1)) := by
  refine F.ok scSame (fun vs H Q E h => ?_) (fun cdv A outer s H vs Q E hr h => ?_)
  · obtain ⟨x, y, rfl, _⟩ := h
    rfl
  · obtain ⟨x, y, rfl, he, q⟩ := h
    refine ⟨_, pss_cons (ps_if (PW.pt (pw_or (pt_cmpR op_isN (pv 1) pe_non (nomark _)) (pw_or1 (pt_cmpR op_isN (pv 0) pe_non (nomark _))))) (pss_one (ps_ret (pe_and (pe_cmpR op_isN (pv 0) pe_non (nomark _)) (pe_one (pe_cmpR op_isN (pv 1) pe_non (nomark _)))))) pss_nil)
      (pss_cons (ps_if (pt_val (pe_callB call_isi (by rfl) T.isi boot_isinstance (pa_cons (pv 1) (pa_cons (pe_bltn (v := .ty "dict") (by rfl) T.dict (by decide +kernel) rfl) pa_nil)))) pss_never pss_nil)
      (pss_cons (ps_if (pt_val (pe_callB call_isiT (by rfl) T.isi boot_isinstance (pa_cons (pv 1) (pa_cons (pe_tup (pa_cons (pe_bltn (v := .ty "list") (by rfl) T.list (by decide +kernel) rfl) (pa_cons (pe_bltn (v := .ty "tuple") (by rfl) T.tuple (by decide +kernel) rfl) pa_nil))) pa_nil)))) (pss_cons (ps_if (PW.pt (pw_or (pt_cmpR op_ne (pe_callB call_isi (by rfl) T.isi boot_isinstance (pa_cons (pv 0) (pa_cons (pe_bltn (v := .ty "list") (by rfl) T.list (by decide +kernel) rfl) pa_nil))) (pe_callB call_isi (by rfl) T.isi boot_isinstance (pa_cons (pv 1) (pa_cons (pe_bltn (v := .ty "list") (by rfl) T.list (by decide +kernel) rfl) pa_nil))) (nomark _)) (pw_or1 (pt_cmpR op_ne (pe_callB call_isi (by rfl) T.isi boot_isinstance (pa_cons (pv 0) (pa_cons (pe_bltn (v := .ty "tuple") (by rfl) T.tuple (by decide +kernel) rfl) pa_nil))) (pe_callB call_isi (by rfl) T.isi boot_isinstance (pa_cons (pv 1) (pa_cons (pe_bltn (v := .ty "tuple") (by rfl) T.tuple (by decide +kernel) rfl) pa_nil))) (nomark _))))) pss_never pss_nil)
        (pss_one (ps_ret (pe_and (pe_cmpR op_eq (pe_callB call_len_seq (by rfl) T.len PySem.boot_len (pa_cons (pv 0) pa_nil)) (pe_callB call_len_seq (by rfl) T.len PySem.boot_len (pa_cons (pv 1) pa_nil)) (nomark _))
          (pe_one (pe_callB (cr_all rfl) (by rfl) T.all boot_all (pa_cons (pe_lc (own := [("_law_one", 2), ("_law_other", 3)]) (g := gTup K 2 (gCons (gName 2) (gCons (gName 3) gNil))) (tt := tYes) rfl scSame.nd (RZ.pi_zipA (by rfl) T.zip (pa_cons (pv 0) (pa_cons (pv 1) pa_nil)))
            (blkOk_by (own := [("_law_one", 2), ("_law_other", 3)]) (N := ["_law_found", "_law_due", "_law_one", "_law_other"]) (sc := defScope sSame) (by decide +kernel))
            (fun _ _ _ _ _ => pg_tup rfl (pgs_cons (pg_name (i := 2) scSame.nd rfl (Or.inl rfl)) (pgs_cons (pg_name (i := 3) scSame.nd rfl (Or.inl rfl)) pgs_nil))) (fun _ _ _ _ _ => pts_nil)
            (fun _ _ _ _ _ => pe_call G hr (by rfl) gS F.kp bS .nil pass0 (pa_cons (pv 2) (pa_cons (pv 3) pa_nil)))) pa_nil))))))) pss_nil)
      (pss_cons (ps_if (PW.pt (pw_or (pt_cmpR op_ne (pe_callB call_isi (by rfl) T.isi boot_isinstance (pa_cons (pv 0) (pa_cons (pe_bltn (v := .ty "bool") (by rfl) T.bool (by decide +kernel) rfl) pa_nil))) (pe_callB call_isi (by rfl) T.isi boot_isinstance (pa_cons (pv 1) (pa_cons (pe_bltn (v := .ty "bool") (by rfl) T.bool (by decide +kernel) rfl) pa_nil))) (nomark _))
          (pw_or1 (pt_cmpR op_ne (pe_callB call_isi (by rfl) T.isi boot_isinstance (pa_cons (pv 0) (pa_cons (pe_bltn (v := .ty "int") (by rfl) T.int (by decide +kernel) rfl) pa_nil))) (pe_callB call_isi (by rfl) T.isi boot_isinstance (pa_cons (pv 1) (pa_cons (pe_bltn (v := .ty "int") (by rfl) T.int (by decide +kernel) rfl) pa_nil))) (nomark _))))) pss_never pss_nil)
      (pss_one (ps_ret (pe_and (pe_cmpR op_eq (pe_callB call_isi (by rfl) T.isi boot_isinstance (pa_cons (pv 0) (pa_cons (pe_bltn (v := .ty "str") (by rfl) T.str (by decide +kernel) rfl) pa_nil))) (pe_callB call_isi (by rfl) T.isi boot_isinstance (pa_cons (pv 1) (pa_cons (pe_bltn (v := .ty "str") (by rfl) T.str (by decide +kernel) rfl) pa_nil))) (nomark _)) (pe_one (pe_cmpR op_eq (pv 0) (pv 1) (nomark _))))))))), ?_⟩
    rcases he with _ | ⟨_, bb⟩ | ⟨_, i⟩ | ⟨_, z⟩ | ⟨hp, hq, hl, hz, hh⟩ | ⟨hp, hq, hl, hz, hh⟩
    · refine ⟨_, rfl, rfl, _, rfl, iteT ⟨_, rfl, rfl, _, rfl, ifT rfl ⟨_, rfl, rfl, ?_⟩⟩⟩
      exact q _ (Same.refl _)
    · refine ⟨_, rfl, rfl, _, rfl, ifF (decide_eq_false (by intro e; cases e)) ⟨_, rfl, rfl, _, rfl, ifF (decide_eq_false (by intro e; cases e)) ?_⟩⟩
      refine ⟨_, rfl, _, _, _, _, false, rfl, .ty "dict", .base (.bl bb), kit_ty (by decide +kernel), _, rfl, iteF ?_⟩
      refine ⟨_, rfl, (by show 2 ≤ sizeLine; decide), fun t ht => ⟨_, t, _, _, [.type "list", .type "tuple"], false, rfl, upd_same, .cons (.ty _) (.cons (.ty _) .nil), .base (.bl bb), kit_list (by decide +kernel) (fun _ => by decide +kernel), _, rfl, iteF ?_⟩⟩
      refine ⟨_, rfl, _, _, _, _, true, rfl, .ty "bool", .base (.bl bb), kit_ty (by decide +kernel), _, rfl, _, _, _, _, true, rfl, .ty "bool", .base (.bl bb), kit_ty (by decide +kernel), rfl, _, rfl, ifF (by decide) ⟨_, rfl, _, _, _, _, true, rfl, .ty "int", .base (.bl bb), kit_ty (by decide +kernel), _, rfl, _, _, _, _, true, rfl, .ty "int", .base (.bl bb), kit_ty (by decide +kernel), rfl, _, rfl, ifF (by decide) ?_⟩⟩
      refine ⟨_, rfl, _, _, _, _, false, rfl, .ty "str", .base (.bl bb), kit_ty (by decide +kernel), _, rfl, _, _, _, _, false, rfl, .ty "str", .base (.bl bb), kit_ty (by decide +kernel), rfl, _, rfl, ifT (by decide) ⟨_, rfl, _, rfl, rfl, ?_⟩⟩
      rw [decide_eq_true rfl]
      exact q _ (same_upd ht)
    · refine ⟨_, rfl, rfl, _, rfl, ifF (decide_eq_false (by intro e; cases e)) ⟨_, rfl, rfl, _, rfl, ifF (decide_eq_false (by intro e; cases e)) ?_⟩⟩
      refine ⟨_, rfl, _, _, _, _, false, rfl, .ty "dict", .base (.int i), kit_ty (by decide +kernel), _, rfl, iteF ?_⟩
      refine ⟨_, rfl, (by show 2 ≤ sizeLine; decide), fun t ht => ⟨_, t, _, _, [.type "list", .type "tuple"], false, rfl, upd_same, .cons (.ty _) (.cons (.ty _) .nil), .base (.int i), kit_list (by decide +kernel) (fun _ => by decide +kernel), _, rfl, iteF ?_⟩⟩
      refine ⟨_, rfl, _, _, _, _, false, rfl, .ty "bool", .base (.int i), kit_ty (by decide +kernel), _, rfl, _, _, _, _, false, rfl, .ty "bool", .base (.int i), kit_ty (by decide +kernel), rfl, _, rfl, ifF (by decide) ⟨_, rfl, _, _, _, _, true, rfl, .ty "int", .base (.int i), kit_ty (by decide +kernel), _, rfl, _, _, _, _, true, rfl, .ty "int", .base (.int i), kit_ty (by decide +kernel), rfl, _, rfl, ifF (by decide) ?_⟩⟩
      refine ⟨_, rfl, _, _, _, _, false, rfl, .ty "str", .base (.int i), kit_ty (by decide +kernel), _, rfl, _, _, _, _, false, rfl, .ty "str", .base (.int i), kit_ty (by decide +kernel), rfl, _, rfl, ifT (by decide) ⟨_, rfl, _, rfl, rfl, ?_⟩⟩
      rw [decide_eq_true rfl]
      exact q _ (same_upd ht)
    · refine ⟨_, rfl, rfl, _, rfl, ifF (decide_eq_false (by intro e; cases e)) ⟨_, rfl, rfl, _, rfl, ifF (decide_eq_false (by intro e; cases e)) ?_⟩⟩
      refine ⟨_, rfl, _, _, _, _, false, rfl, .ty "dict", .base (.str z), kit_ty (by decide +kernel), _, rfl, iteF ?_⟩
      refine ⟨_, rfl, (by show 2 ≤ sizeLine; decide), fun t ht => ⟨_, t, _, _, [.type "list", .type "tuple"], false, rfl, upd_same, .cons (.ty _) (.cons (.ty _) .nil), .base (.str z), kit_list (by decide +kernel) (fun _ => by decide +kernel), _, rfl, iteF ?_⟩⟩
      refine ⟨_, rfl, _, _, _, _, false, rfl, .ty "bool", .base (.str z), kit_ty (by decide +kernel), _, rfl, _, _, _, _, false, rfl, .ty "bool", .base (.str z), kit_ty (by decide +kernel), rfl, _, rfl, ifF (by decide) ⟨_, rfl, _, _, _, _, false, rfl, .ty "int", .base (.str z), kit_ty (by decide +kernel), _, rfl, _, _, _, _, false, rfl, .ty "int", .base (.str z), kit_ty (by decide +kernel), rfl, _, rfl, ifF (by decide) ?_⟩⟩
      refine ⟨_, rfl, _, _, _, _, true, rfl, .ty "str", .base (.str z), kit_ty (by decide +kernel), _, rfl, _, _, _, _, true, rfl, .ty "str", .base (.str z), kit_ty (by decide +kernel), rfl, _, rfl, ifT (by decide) ⟨_, rfl, _, rfl, rfl, ?_⟩⟩
      rw [decide_eq_true rfl]
      exact q _ (same_upd ht)
    · rename_i p' q' xs ys
      refine ⟨_, rfl, rfl, _, rfl, ifF (decide_eq_false (by intro e; cases e)) ⟨_, rfl, rfl, _, rfl, ifF (decide_eq_false (by intro e; cases e)) ?_⟩⟩
      refine ⟨_, rfl, _, _, _, _, false, rfl, .ty "dict", .base (.lst hq), kit_ty (by decide +kernel), _, rfl, iteF ?_⟩
      refine ⟨_, rfl, (by show 2 ≤ sizeLine; decide), fun t ht => ⟨_, t, _, _, [.type "list", .type "tuple"], true, rfl, upd_same, .cons (.ty _) (.cons (.ty _) .nil), .base (.lst (same_upd ht _ _ hq)), kit_list (by decide +kernel) (fun e => by cases e), _, rfl, iteT ?_⟩⟩
      have s1 : Same H (upd H t (.tup [.ty "list", .ty "tuple"])) := same_upd ht
      have hp1 := s1 _ _ hp
      have hq1 := s1 _ _ hq
      refine ⟨_, rfl, _, _, _, _, true, rfl, .ty "list", .base (.lst hp1), kit_ty (by decide +kernel), _, rfl, _, _, _, _, true, rfl, .ty "list", .base (.lst hq1), kit_ty (by decide +kernel), rfl, _, rfl, ifF (by decide) ⟨_, rfl, _, _, _, _, false, rfl, .ty "tuple", .base (.lst hp1), kit_ty (by decide +kernel), _, rfl, _, _, _, _, false, rfl, .ty "tuple", .base (.lst hq1), kit_ty (by decide +kernel), rfl, _, rfl, ifF (by decide) ?_⟩⟩
      refine ⟨_, rfl, p', xs, rfl, .inl (SqL.of hp1), _, rfl, q', ys, rfl, .inl (SqL.of hq1), rfl, _, rfl, ifT (decide_eq_true (by rw [hl])) ?_⟩
      refine ⟨_, rfl, _, rfl, p', q', xs, ys, rfl, .inl ⟨SqL.of hp1, SqL.of hq1, fun D hD => ?_⟩⟩
      have fD := s1.free hD
      refine lc_it (walk_zip (K := K) (a := p') (b := q') (xs := xs) (ys := ys) (n := xs.length) (by omega)) (fun i H' => Same H H' ∧ H' D = some (.lst ((List.replicate i true).map V.bl))) ⟨same_put s1 fD, upd_same⟩
        (fun i H' _ hv => ⟨SqL.of (hv.1 _ _ hp), SqL.of (hv.1 _ _ hq)⟩) ?_ ?_
      · rintro i v H' H2 hi ⟨sm, hDl⟩ ⟨t2, a1, a2, rfl, ht2, rfl, e1, e2⟩
        have s2 : Same H' (upd H' t2 (.tup [a1, a2])) := same_upd ht2
        refine ⟨t2, _, rfl, .inl (.inl upd_same), rfl, a1, [a2], rfl, a2, [], rfl, rfl, rfl, ?_⟩
        refine ⟨_, rfl, _, rfl, a1, a2, rfl, (hh i a1 a2 e1 e2).same (sm.trans s2), fun H3 s3 => ?_⟩
        refine ⟨_, s3 _ _ (s2 _ _ hDl), ?_, same_put (sm.trans (s2.trans s3)) fD, ?_⟩
        · rw [List.length_map, List.length_replicate]
          exact Nat.lt_of_lt_of_le hi (Nat.le_trans hz (by decide))
        · rw [upd_same, List.replicate_succ', List.map_append]
          rfl
      · rintro H' ⟨sm, hDl⟩
        refine ⟨D, List.replicate xs.length true, rfl, SqL.of hDl, ?_⟩
        have e : (List.replicate xs.length true).all id = true := by
          rw [List.all_eq_true]
          intro b hb
          exact (List.mem_replicate.mp hb).2
        rw [e]
        exact q _ sm
    · rename_i p' q' xs ys
      refine ⟨_, rfl, rfl, _, rfl, ifF (decide_eq_false (by intro e; cases e)) ⟨_, rfl, rfl, _, rfl, ifF (decide_eq_false (by intro e; cases e)) ?_⟩⟩
      refine ⟨_, rfl, _, _, _, _, false, rfl, .ty "dict", .base (.tup hq), kit_ty (by decide +kernel), _, rfl, iteF ?_⟩
      refine ⟨_, rfl, (by show 2 ≤ sizeLine; decide), fun t ht => ⟨_, t, _, _, [.type "list", .type "tuple"], true, rfl, upd_same, .cons (.ty _) (.cons (.ty _) .nil), .base (.tup (same_upd ht _ _ hq)), kit_tup, _, rfl, iteT ?_⟩⟩
      have s1 : Same H (upd H t (.tup [.ty "list", .ty "tuple"])) := same_upd ht
      have hp1 := s1 _ _ hp
      have hq1 := s1 _ _ hq
      refine ⟨_, rfl, _, _, _, _, false, rfl, .ty "list", .base (.tup hp1), kit_ty (by decide +kernel), _, rfl, _, _, _, _, false, rfl, .ty "list", .base (.tup hq1), kit_ty (by decide +kernel), rfl, _, rfl, ifF (by decide) ⟨_, rfl, _, _, _, _, true, rfl, .ty "tuple", .base (.tup hp1), kit_ty (by decide +kernel), _, rfl, _, _, _, _, true, rfl, .ty "tuple", .base (.tup hq1), kit_ty (by decide +kernel), rfl, _, rfl, ifF (by decide) ?_⟩⟩
      refine ⟨_, rfl, p', xs, rfl, .inr (.inl (.inl hp1)), _, rfl, q', ys, rfl, .inr (.inl (.inl hq1)), rfl, _, rfl, ifT (decide_eq_true (by rw [hl])) ?_⟩
      refine ⟨_, rfl, _, rfl, p', q', xs, ys, rfl, .inr ⟨.inl (.inl hp1), .inl (.inl hq1), fun D hD => ?_⟩⟩
      have fD := s1.free hD
      refine lc_it (zip_tuples (K := K) (a := p') (b := q') (xs := xs) (ys := ys) hl) (fun i H' => Same H H' ∧ H' D = some (.lst ((List.replicate i true).map V.bl))) ⟨same_put s1 fD, upd_same⟩
        (fun i H' _ hv => ⟨.inl (.inl (hv.1 _ _ hp)), .inl (.inl (hv.1 _ _ hq))⟩) ?_ ?_
      · rintro i v H' H2 hi ⟨sm, hDl⟩ ⟨t2, a1, a2, rfl, ht2, rfl, e1, e2⟩
        have s2 : Same H' (upd H' t2 (.tup [a1, a2])) := same_upd ht2
        refine ⟨t2, _, rfl, .inl (.inl upd_same), rfl, a1, [a2], rfl, a2, [], rfl, rfl, rfl, ?_⟩
        refine ⟨_, rfl, _, rfl, a1, a2, rfl, (hh i a1 a2 e1 e2).same (sm.trans s2), fun H3 s3 => ?_⟩
        refine ⟨_, s3 _ _ (s2 _ _ hDl), ?_, same_put (sm.trans (s2.trans s3)) fD, ?_⟩
        · rw [List.length_map, List.length_replicate]
          exact Nat.lt_of_lt_of_le hi (Nat.le_trans hz (by decide))
        · rw [upd_same, List.replicate_succ', List.map_append]
          rfl
      · rintro H' ⟨sm, hDl⟩
        refine ⟨D, List.replicate xs.length true, rfl, SqL.of hDl, ?_⟩
        have e : (List.replicate xs.length true).all id = true := by
          rw [List.all_eq_true]
          intro b hb
          exact (List.mem_replicate.mp hb).2
        rw [e]
        exact q _ sm
theorem ok_same {f : Addr} {fd : FuncData} (F : Fun K "_law_same" "_law_same" sSame f fd) (T : SameT mg) (gS : mg "_law_same" = some (.ref f)) (bS : Binds K fd ["_law_found", "_law_due"] []) : ∀ n : Nat, FnOk P w K mg base CX0 (n + 1) f fd ["_law_found", "_law_due"] (spSame n)
  | 0 => ok_same0 F T
  | n + 1 => ok_sameS (ok_same F T gS bS n) gS bS F T
end

abbrev sLettersOf : Stmt := topS 7
abbrev sSignOf : Stmt := topS 8
abbrev sSigned : Stmt := topS 9
theorem scLettersOf : FnScope ["text"] ["text"] (defScope sLettersOf) := ⟨rfl, rfl, rfl, by decide +kernel, rfl, by decide +kernel, by decide +kernel⟩
theorem scSignOf : FnScope ["text"] ["text"] (defScope sSignOf) := ⟨rfl, rfl, rfl, by decide +kernel, rfl, by decide +kernel, by decide +kernel⟩
theorem scSigned : FnScope ["turns", "letters"] ["turns", "letters"] (defScope sSigned) := ⟨rfl, rfl, rfl, by decide +kernel, rfl, by decide +kernel, by decide +kernel⟩
section
variable {P : Program} {w : World} {K : PySem.W.Frag} {mg : Str → Option Value} {base : Heap}
theorem ok_letters {f : Addr} {fd : FuncData} (F : Fun K "letters_of" "letters_of" sLettersOf f fd) : FnOk P w K mg base CX0 1 f fd ["text"] spLetters := by
  refine F.ok scLettersOf (fun vs H Q E h => ?_) (fun cdv A outer s H vs Q E hr h => ?_)
  · obtain ⟨ts, rfl, _⟩ := h
    rfl
  · obtain ⟨ts, rfl, hz, q⟩ := h
    refine ⟨_, pss_one (ps_ret (pe_m1 PySem.F.slot_str_removeprefix PySem.F.type_str_removeprefix mt_removeprefix (pv 0) pe_str)), ?_⟩
    refine ⟨_, rfl, ⟨_, rfl⟩, txt ts, Str.ofString "-", rfl, rfl, by rw [txt_len]; exact hz, ?_⟩
    rw [remove_minus]
    exact q
theorem ok_signof {f fL : Addr} {fd fdL : FuncData} (F : Fun K "sign_of" "sign_of" sSignOf f fd) (FL : Fun K "letters_of" "letters_of" sLettersOf fL fdL) (bL : Binds K fdL ["text"] []) (gL : mg "letters_of" = some (.ref fL)) (ml : mg "len" = none) : FnOk P w K mg base CX0 2 f fd ["text"] spSignOf := by
  have GL : FnOk P w K mg base CX0 1 fL fdL ["text"] spLetters := ok_letters FL
  refine F.ok scSignOf (fun vs H Q E h => ?_) (fun cdv A outer s H vs Q E hr h => ?_)
  · obtain ⟨ts, rfl, _⟩ := h
    rfl
  · obtain ⟨ts, rfl, hz, q⟩ := h
    refine ⟨_, pss_one (ps_ret (pe_op op_sub (pe_callB call_len_str (by rfl) ml PySem.boot_len (pa_cons (pv 0) pa_nil)) (pe_callB call_len_str (by rfl) ml PySem.boot_len (pa_cons (pe_call GL hr (by rfl) gL FL.kp bL .nil pass0 (pa_cons (pv 0) pa_nil)) pa_nil)))), ?_⟩
    have e := letters_len ts
    refine ⟨_, rfl, _, rfl, by rw [txt_len]; exact hz, _, rfl, ts, rfl, hz, _, rfl, by rw [txt_len]; omega, _, _, rfl, rfl, ?_⟩
    have e2 : ((txt ts).length : Int) - ((txt (lettersL ts)).length : Int) = (signL ts : Int) := by
      rw [txt_len, txt_len]; omega
    show Q (.int (((txt ts).length : Int) - ((txt (lettersL ts)).length : Int))) H
    rw [e2]
    exact q
theorem ok_signed {f : Addr} {fd : FuncData} (F : Fun K "signed" "signed" sSigned f fd) : FnOk P w K mg base CX0 1 f fd ["turns", "letters"] spSigned := by
  refine F.ok scSigned (fun vs H Q E h => ?_) (fun cdv A outer s H vs Q E hr h => ?_)
  · obtain ⟨t, cs, rfl, _⟩ := h
    rfl
  · obtain ⟨t, cs, rfl, hz, q⟩ := h
    refine ⟨_, pss_one (ps_ret (pe_ifExp (pt_cmpR op_eq (pe_op op_mod (pv 0) pe_int) pe_int (nomark _)) (pe_op op_add_str pe_str (pv 1)) (pv 1))), ?_⟩
    refine ⟨_, rfl, _, _, rfl, rfl, (by dsimp only; decide), rfl, _, rfl, ite2 (fun h => ?_) (fun h => ?_)⟩
    · have e := V.int.inj (of_decide_eq_true h)
      refine ⟨_, rfl, _, _, rfl, rfl, by rw [txt_minus, txt_len, txt_len]; simp; omega, ?_⟩
      rw [txt_minus, txt_app]
      unfold signedL at q
      rw [if_pos e] at q
      exact q
    · have e : ¬ t % 2 = 1 := fun z => h (decide_eq_true (congrArg V.int z))
      unfold signedL at q
      rw [if_neg e] at q
      exact ⟨_, rfl, q⟩
end

abbrev sLSigned : Stmt := topS 33
theorem scLSigned : FnScope ["_law_mturned", "_law_body_here"] ["_law_mturned", "_law_body_here"] (defScope sLSigned) := ⟨rfl, rfl, rfl, by decide +kernel, rfl, by decide +kernel, by decide +kernel⟩
section
variable {P : Program} {w : World} {K : PySem.W.Frag} {mg : Str → Option Value} {base : Heap}
theorem ok_lsigned {f : Addr} {fd : FuncData} (F : Fun K "_law_signed" "_law_signed" sLSigned f fd) : FnOk P w K mg base CX0 1 f fd ["_law_mturned", "_law_body_here"] spLSigned := by
  refine F.ok scLSigned (fun vs H Q E h => ?_) (fun cdv A outer s H vs Q E hr h => ?_)
  · obtain ⟨t, cs, rfl, _⟩ := h
    rfl
  · obtain ⟨t, cs, rfl, hz, q⟩ := h
    refine ⟨_, pss_one (ps_ret (pe_op op_add_str (pe_ifExp (pt_cmpR op_eq (pe_op op_mod (pv 0) pe_int) pe_int (nomark _)) pe_str pe_str) (pv 1))), ?_⟩
    refine ⟨_, rfl, _, _, rfl, rfl, (by dsimp only; decide), rfl, _, rfl, ite2 (fun h => ?_) (fun h => ?_)⟩
    · have e := V.int.inj (of_decide_eq_true h)
      refine ⟨_, rfl, _, _, rfl, rfl, by rw [txt_minus, txt_len, txt_len]; simp; omega, ?_⟩
      rw [txt_minus, txt_app]
      unfold signedL at q
      rw [if_pos e] at q
      exact q
    · have e : ¬ t % 2 = 1 := fun z => h (decide_eq_true (congrArg V.int z))
      refine ⟨_, rfl, _, _, rfl, rfl, by rw [txt_empty, txt_len, txt_len]; simp; omega, ?_⟩
      rw [txt_empty, txt_app]
      unfold signedL at q
      rw [if_neg e] at q
      exact q
end

abbrev sLBody : Stmt := topS 32
theorem scLBody : FnScope ["_law_text_here"] ["_law_text_here"] (defScope sLBody) := ⟨rfl, rfl, rfl, by decide +kernel, rfl, by decide +kernel, by decide +kernel⟩
section
variable {P : Program} {w : World} {K : PySem.W.Frag} {mg : Str → Option Value} {base : Heap}
theorem first_is (ts : List Nat) : decide (V.str (cutS (txt ts) none (some 1)) = V.str (Str.ofString "-")) = decide (signL ts = 1) := by
  have e : cutS (txt ts) none (some ((1 : Nat) : Int)) = txt (ts.take 1) := cutS_take _ 1
  have e' : cutS (txt ts) none (some 1) = txt (ts.take 1) := e
  rw [e', txt_minus]
  cases ts with
  | nil => exact decide_eq_false (fun z => by cases txt_inj (V.str.inj z))
  | cons c r =>
    show decide (V.str (txt [c]) = V.str (txt [45])) = decide (signL (c :: r) = 1)
    by_cases h : c = 45
    · subst h
      rfl
    · have e0 : signL (c :: r) = 0 := if_neg h
      rw [decide_eq_false (fun z => h (List.head_eq_of_cons_eq (txt_inj (V.str.inj z)))), e0]
      rfl
theorem ok_lbody {f : Addr} {fd : FuncData} (F : Fun K "_law_body" "_law_body" sLBody f fd) : FnOk P w K mg base CX0 1 f fd ["_law_text_here"] spLBody := by
  refine F.ok scLBody (fun vs H Q E h => ?_) (fun cdv A outer s H vs Q E hr h => ?_)
  · obtain ⟨ts, rfl, _⟩ := h
    rfl
  · obtain ⟨ts, rfl, hz, q⟩ := h
    refine ⟨_, pss_one (ps_ret (pe_ifExp (pt_cmpR op_eq (pe_slice sl_str (pv 0) po_none (po_some pe_int)) pe_str (nomark _)) (pe_slice sl_str (pv 0) (po_some pe_int) po_none) (pv 0))), ?_⟩
    have tz : (txt ts).length ≤ sizeLine := by rw [txt_len]; exact Nat.le_of_lt (small1000 hz)
    refine ⟨_, rfl, 1, rfl, _, rfl, tz, rfl, _, rfl, ?_⟩
    rw [first_is]
    cases ts with
    | nil => exact iteF ⟨_, rfl, q⟩
    | cons c r =>
      by_cases h : c = 45
      · subst h
        have e : cutS (txt (45 :: r)) (some ((1 : Nat) : Int)) none = txt r := cutS_drop (45 :: r) 1
        have e' : cutS (txt (45 :: r)) (some 1) none = txt r := e
        refine iteT ⟨_, rfl, 1, rfl, _, rfl, tz, ?_⟩
        rw [e']
        exact q
      · have e1 : signL (c :: r) = 0 := if_neg h
        have e2 : lettersL (c :: r) = c :: r := if_neg h
        rw [e1]
        rw [e2] at q
        exact iteF ⟨_, rfl, q⟩
end

abbrev sLets : Stmt := topS 31
theorem scLets : FnScope [] [] (defScope sLets) := ⟨rfl, rfl, rfl, by decide +kernel, rfl, by decide +kernel, by decide +kernel⟩
section
variable {P : Program} {w : World} {K : PySem.W.Frag} {mg : Str → Option Value} {base : Heap}
theorem ok_lets {f : Addr} {fd : FuncData} (F : Fun K "_law_letters" "_law_letters" sLets f fd) : FnOk P w K mg base CX0 1 f fd [] spLets := by
  refine F.ok scLets (fun vs H Q E h => ?_) (fun cdv A outer s H vs Q E hr h => ?_)
  · obtain ⟨rfl, _⟩ := h
    rfl
  · obtain ⟨rfl, q⟩ := h
    exact ⟨_, pss_one (ps_ret pe_str), q⟩
end


end T25

namespace T25
open PySem PySem.Spec PyProof.Rows L2 Tm
abbrev sIsStr : Stmt := topS 13
abbrev sChkS : Stmt := topS 14
abbrev sTwo : Stmt := topS 15
abbrev sMult : Stmt := topS 16
theorem scIsStr : FnScope ["text", "letter"] ["text"] (defScope sIsStr) := ⟨rfl, rfl, rfl, by decide +kernel, rfl, by decide +kernel, by decide +kernel⟩
theorem scChkS : FnScope ["text"] ["text"] (defScope sChkS) := ⟨rfl, rfl, rfl, by decide +kernel, rfl, by decide +kernel, by decide +kernel⟩
theorem scTwo : FnScope ["one", "other", "products", "turns", "left", "right", "text"] ["one", "other"] (defScope sTwo) := ⟨rfl, rfl, rfl, by decide +kernel, rfl, by decide +kernel, by decide +kernel⟩
theorem scMult : FnScope ["strings", "text", "total"] ["strings"] (defScope sMult) := ⟨rfl, rfl, rfl, by decide +kernel, rfl, by decide +kernel, by decide +kernel⟩
section
variable {P : Program} {w : World} {K : PySem.W.Frag} {mg : Str → Option Value} {base : Heap}
theorem ok_isstr {f fL : Addr} {fd fdL : FuncData} {t : Tok} (F : Fun K "is_string" "is_string" sIsStr f fd) (FL : Fun K "letters_of" "letters_of" sLettersOf fL fdL) (bL : Binds K fdL ["text"] []) (gL : mg "letters_of" = some (.ref fL)) (gA : mg "STRING_LETTERS" = some (.str (Str.ofString "1XZW") t)) (ma : mg "all" = none) :
    FnOk P w K mg base CX0 2 f fd ["text"] spIsStr := by
  have GL : FnOk P w K mg base CX0 1 fL fdL ["text"] spLetters := ok_letters FL
  refine F.ok scIsStr (fun vs H Q E h => ?_) (fun cdv A outer s H vs Q E hr h => ?_)
  · obtain ⟨ts, rfl, _⟩ := h
    rfl
  · obtain ⟨ts, rfl, hz, q⟩ := h
    refine ⟨_, pss_one (ps_ret (pe_callB (cr_all rfl) (by rfl) ma (by decide +kernel) (pa_cons (pe_lc (own := [("letter", 1)]) (g := gName 1) (tt := tYes) rfl scIsStr.nd (pi_str (pe_call GL hr (by rfl) gL FL.kp bL .nil pass0 (pa_cons (pv 0) pa_nil))) (blkOk_by (own := [("letter", 1)]) (N := ["text", "letter"]) (sc := defScope sIsStr) (by decide +kernel))
        (fun _ _ _ _ _ => pg_name (i := 1) scIsStr.nd rfl (Or.inl rfl)) (fun _ _ _ _ _ => pts_nil) (fun _ _ _ _ _ => pe_cmpR op_in_sign (pv 1) (pe_glob (v := .str (Str.ofString "1XZW")) rfl gA ⟨_, rfl⟩) (by rfl))) pa_nil))), ?_⟩
    have le := lettersL_le ts
    refine ⟨_, rfl, ts, rfl, Nat.le_of_lt (small1000 hz), _, rfl, fun D nD => ?_⟩
    have hsz : (txt (lettersL ts)).cps.size = (lettersL ts).length := txt_len _
    refine lc_it (walk_str (z := txt (lettersL ts))) (fun i H' => Same H H' ∧ H' D = some (.lst ((((lettersL ts).take i).map fun c => decide (c ∈ Al)).map V.bl))) ⟨same_upd nD, upd_same⟩ (fun _ _ _ _ => trivial) ?_ ?_
    · rintro i v H1 H2 hi ⟨s1, hD⟩ ⟨rfl, c, hc, rfl⟩
      rw [hsz] at hi
      have ec := at_txt hc
      refine ⟨rfl, ?_⟩
      refine ⟨_, rfl, c, _, rfl, rfl, _, hD, ?_, same_put s1 nD, ?_⟩
      · rw [List.length_map, List.length_map, List.length_take]
        exact small1000 (by omega)
      · rw [upd_same, List.take_succ, ec, List.map_append, List.map_append, txt_al, txt_cps]
        rfl
    · rintro H1 ⟨s1, hD⟩
      rw [hsz, List.take_length] at hD
      refine ⟨D, _, rfl, SqL.of hD, ?_⟩
      rw [List.all_map]
      exact q H1 s1
theorem ok_chks {f fI fL : Addr} {fd fdI fdL : FuncData} {t : Tok} (F : Fun K "check_string" "check_string" sChkS f fd) (FI : Fun K "is_string" "is_string" sIsStr fI fdI) (bI : Binds K fdI ["text"] []) (gI : mg "is_string" = some (.ref fI))
    (FL : Fun K "letters_of" "letters_of" sLettersOf fL fdL) (bL : Binds K fdL ["text"] []) (gL : mg "letters_of" = some (.ref fL)) (gA : mg "STRING_LETTERS" = some (.str (Str.ofString "1XZW") t)) (ma : mg "all" = none) : FnOk P w K mg base CX0 3 f fd ["text"] spChkS := by
  have GI : FnOk P w K mg base CX0 2 fI fdI ["text"] spIsStr := ok_isstr FI FL bL gL gA ma
  refine F.ok scChkS (fun vs H Q E h => ?_) (fun cdv A outer s H vs Q E hr h => ?_)
  · obtain ⟨ts, rfl, _⟩ := h
    rfl
  · obtain ⟨ts, rfl, hz, al, q⟩ := h
    refine ⟨_, pss_one (ps_if (pt_not (pt_val (pe_call GI hr (by rfl) gI FI.kp bI .nil pass0 (pa_cons (pv 0) pa_nil)))) pss_never pss_nil), ?_⟩
    refine ⟨_, rfl, ts, rfl, hz, fun H1 s1 => ⟨_, rfl, ?_⟩⟩
    rw [all_al al]
    exact iteF (q H1 s1)
theorem ok_two {f fL fO fS pd : Addr} {fd fdL fdO fdS : FuncData} (F : Fun K "product_of_two" "product_of_two" sTwo f fd) (FL : Fun K "letters_of" "letters_of" sLettersOf fL fdL) (bL : Binds K fdL ["text"] []) (gL : mg "letters_of" = some (.ref fL))
    (FO : Fun K "sign_of" "sign_of" sSignOf fO fdO) (bO : Binds K fdO ["text"] []) (gO : mg "sign_of" = some (.ref fO)) (FS : Fun K "signed" "signed" sSigned fS fdS) (bS : Binds K fdS ["turns", "letters"] []) (gS : mg "signed" = some (.ref fS))
    (gD : mg "PRODUCTS" = some (.ref pd)) (KD : ∀ a ∈ Al, ∀ b ∈ Al, KDct K w pd (txt [a, b]) (tv (pP a b))) (ml : mg "len" = none) (ms : mg "sum" = none) (mz : mg "zip" = none) : FnOk P w K mg base CX0 3 f fd ["one", "other"] spTwo := by
  have GL : FnOk P w K mg base CX0 1 fL fdL ["text"] spLetters := ok_letters FL
  have GO : FnOk P w K mg base CX0 2 fO fdO ["text"] spSignOf := ok_signof FO FL bL gL ml
  have GS : FnOk P w K mg base CX0 1 fS fdS ["turns", "letters"] spSigned := ok_signed FS
  refine F.ok scTwo (fun vs H Q E h => ?_) (fun cdv A outer s H vs Q E hr h => ?_)
  · obtain ⟨n, x, y, rfl, _⟩ := h
    rfl
  · obtain ⟨n, x, y, rfl, hn, hx, hy, q⟩ := h
    have hr1 : Room 1 _ := hr.mono (by decide)
    refine ⟨_, pss_cons (ps_setLc (i := 2) (own := [("left", 4), ("right", 5)]) (g := gTup K 2 (gCons (gName 4) (gCons (gName 5) gNil))) (tt := tYes) rfl scTwo.nd rfl rfl (sw_true rfl rfl rfl (by decide +kernel))
        (pi_zipS (by rfl) mz (pa_cons (pe_call GL hr1 (by rfl) gL FL.kp bL .nil pass0 (pa_cons (pv 0) pa_nil)) (pa_cons (pe_call GL hr1 (by rfl) gL FL.kp bL .nil pass0 (pa_cons (pv 1) pa_nil)) pa_nil)))
        (blkOk_by (own := [("left", 4), ("right", 5)]) (N := ["one", "other", "products", "turns", "left", "right", "text"]) (sc := defScope sTwo) (by decide +kernel))
        (fun _ _ _ _ _ => pg_tup rfl (pgs_cons (pg_name (i := 4) scTwo.nd rfl (Or.inl rfl)) (pgs_cons (pg_name (i := 5) scTwo.nd rfl (Or.inl rfl)) pgs_nil))) (fun _ _ _ _ _ => pts_nil)
        (fun _ _ _ _ _ => pe_ix (r := rIxD K w) ix_kdict (pe_glob (v := .ref pd) rfl gD rfl) (pe_op op_add_str (pv 4) (pv 5)) (fun _ _ => rfl)))
      (pss_cons (ps_set (i := 3) scTwo.nd rfl (.inl rfl) (pe_op op_add (pe_op op_add (pe_call GO hr (by rfl) gO FO.kp bO .nil pass0 (pa_cons (pv 0) pa_nil)) (pe_call GO hr (by rfl) gO FO.kp bO .nil pass0 (pa_cons (pv 1) pa_nil)))
        (pe_callB (cr_sum rfl) (by rfl) ms boot_sum (pa_cons (pe_lc (own := [("text", 6)]) (g := gName 6) (tt := tYes) rfl scTwo.nd (pi_list (pv 2)) (blkOk_by (own := [("text", 6)]) (N := ["one", "other", "products", "turns", "left", "right", "text"]) (sc := defScope sTwo) (by decide +kernel))
          (fun _ _ _ _ _ => pg_name (i := 6) scTwo.nd rfl (Or.inl rfl)) (fun _ _ _ _ _ => pts_nil) (fun _ _ _ _ _ => pe_call GO hr (by rfl) gO FO.kp bO .nil pass0 (pa_cons (pv 6) pa_nil))) pa_nil))))
      (pss_one (ps_ret (pe_call GS hr1 (by rfl) gS FS.kp bS .nil pass0 (pa_cons (pv 3) (pa_cons (pe_join pe_str (pe_lc (own := [("text", 6)]) (g := gName 6) (tt := tYes) rfl scTwo.nd (pi_list (pv 2)) (blkOk_by (own := [("text", 6)]) (N := ["one", "other", "products", "turns", "left", "right", "text"]) (sc := defScope sTwo) (by decide +kernel))
          (fun _ _ _ _ _ => pg_name (i := 6) scTwo.nd rfl (Or.inl rfl)) (fun _ _ _ _ _ => pts_nil) (fun _ _ _ _ _ => pe_call GL hr1 (by rfl) gL FL.kp bL .nil pass0 (pa_cons (pv 6) pa_nil)))) pa_nil)))))), ?_⟩
    obtain ⟨sx, lx, ax⟩ := hx.len
    obtain ⟨sy, ly, ay⟩ := hy.len
    have plen : (prodsL (lettersL x) (lettersL y)).length = n := by
      unfold prodsL
      rw [List.length_zipWith]; omega
    have pal := prods_al ax ay
    have short : ∀ z ∈ prodsL (lettersL x) (lettersL y), z.length ≤ 2 := fun z hz => by
      obtain ⟨a, ha, b, hb, rfl⟩ := pal z hz
      exact (p_form a ha b hb).2.2.2
    have at_i : ∀ {i : Nat} {v : V}, ((prodsL (lettersL x) (lettersL y)).map tv)[i]? = some v → ∃ z, (prodsL (lettersL x) (lettersL y))[i]? = some z ∧ v = tv z ∧ z.length ≤ 2 := by
      intro i v hv
      rw [List.getElem?_map] at hv
      cases ex : (prodsL (lettersL x) (lettersL y))[i]? with
      | none => rw [ex] at hv; cases hv
      | some z =>
        rw [ex] at hv
        exact ⟨z, rfl, (Option.some.inj hv).symm, short z (List.mem_of_getElem? ex)⟩
    have zx : x.length ≤ sizeLine := Nat.le_of_lt (small1000 (by omega))
    have zy : y.length ≤ sizeLine := Nat.le_of_lt (small1000 (by omega))
    refine ⟨_, rfl, x, rfl, zx, _, rfl, y, rfl, zy, lettersL x, lettersL y, rfl, fun D nD => ?_⟩
    refine lc_it walk_zipS (fun i H' => Same H H' ∧ H' D = some (.lst (((prodsL (lettersL x) (lettersL y)).take i).map tv))) ⟨same_upd nD, upd_same⟩ (fun _ _ _ _ => trivial) ?_ ?_
    · rintro i v H1 H2 hi ⟨s1, hD⟩ ⟨T, c, d, rfl, nT, rfl, hc, hd⟩
      have ec := prods_at hc hd
      have hca : c ∈ Al := ax c (List.mem_of_getElem? hc)
      have hda : d ∈ Al := ay d (List.mem_of_getElem? hd)
      refine ⟨T, _, rfl, .inl (.inl upd_same), rfl, _, _, rfl, _, _, rfl, rfl, rfl, ?_⟩
      refine ⟨_, rfl, _, rfl, _, _, rfl, rfl, by show 1 + 1 ≤ sizeLine; decide, pd, txt [c, d], _, rfl, congrArg V.str (txt_app [c] [d]), KD c hca d hda, ?_⟩
      refine ⟨_, (same_upd nT) _ _ hD, ?_, same_put (s1.trans (same_upd nT)) nD, ?_⟩
      · rw [List.length_map, List.length_take]
        exact small1000 (by omega)
      · rw [upd_same, List.take_succ, ec, List.map_append]
        rfl
    rintro H1 ⟨s1, hD⟩
    have efull : (prodsL (lettersL x) (lettersL y)).take (min (lettersL x).length (lettersL y).length) = prodsL (lettersL x) (lettersL y) := List.take_of_length_le (by omega)
    rw [efull] at hD
    have len : ((prodsL (lettersL x) (lettersL y)).map tv).length = n := by rw [List.length_map, plen]
    refine ⟨_, rfl, x, rfl, zx, _, rfl, y, rfl, zy, _, _, rfl, rfl, _, rfl, D, rfl, ⟨_, SqL.of hD⟩, fun D2 nD2 => ?_⟩
    refine lc_list (K := K) (a := D) (xs := (prodsL (lettersL x) (lettersL y)).map tv) (fun i H' => Same H1 H' ∧ H' D2 = some (.lst ((((prodsL (lettersL x) (lettersL y)).take i).map signL).map fun n : Nat => V.int n))) ⟨same_upd nD2, upd_same⟩ (fun i H' _ hv => SqL.of (hv.1 _ _ hD)) ?_ ?_
    · rintro i v H2 hv ⟨s2, hD2⟩
      obtain ⟨z, ez, rfl, hz⟩ := at_i hv
      have hi : i < (prodsL (lettersL x) (lettersL y)).length := (List.getElem?_eq_some_iff.mp ez).1
      refine ⟨rfl, ?_⟩
      refine ⟨_, rfl, z, rfl, Nat.le_of_lt (small1000 (by omega)), _, hD2, ?_, same_put s2 nD2, ?_⟩
      · rw [List.length_map, List.length_map, List.length_take]
        exact small1000 (by omega)
      · rw [upd_same, List.take_succ, ez, List.map_append, List.map_append]
        rfl
    rintro H2 ⟨s2, hD2⟩
    rw [len, ← plen, List.take_length] at hD2
    have hD3 : H2 D2 = some (.lst ((((prodsL (lettersL x) (lettersL y)).map signL).map fun n : Nat => (n : Int)).map V.int)) := by
      rw [hD2, List.map_map (f := fun n : Nat => (n : Int))]
      rfl
    refine ⟨D2, _, rfl, SqL.of hD3, _, _, rfl, rfl, _, rfl, ⟨_, rfl⟩, _, rfl, D, rfl, ⟨_, SqL.of (s2 _ _ hD)⟩, fun D4 nD4 => ?_⟩
    refine lc_list (K := K) (a := D) (xs := (prodsL (lettersL x) (lettersL y)).map tv) (fun i H' => Same H2 H' ∧ H' D4 = some (.lst ((((prodsL (lettersL x) (lettersL y)).take i).map lettersL).map tv))) ⟨same_upd nD4, upd_same⟩ (fun i H' _ hv => SqL.of (hv.1 _ _ (s2 _ _ hD))) ?_ ?_
    · rintro i v H3 hv ⟨s3, hD4⟩
      obtain ⟨z, ez, rfl, hz⟩ := at_i hv
      have hi : i < (prodsL (lettersL x) (lettersL y)).length := (List.getElem?_eq_some_iff.mp ez).1
      refine ⟨rfl, ?_⟩
      refine ⟨_, rfl, z, rfl, Nat.le_of_lt (small1000 (by omega)), _, hD4, ?_, same_put s3 nD4, ?_⟩
      · rw [List.length_map, List.length_map, List.length_take]
        exact small1000 (by omega)
      · rw [upd_same, List.take_succ, ez, List.map_append, List.map_append]
        rfl
    rintro H3 ⟨s3, hD4⟩
    rw [len, ← plen, List.take_length] at hD4
    have hD5 : H3 D4 = some (.lst ((((prodsL (lettersL x) (lettersL y)).map lettersL).map txt).map V.str)) := by
      rw [hD4, List.map_map (f := txt)]
      rfl
    have zl := zL_len (as := lettersL x) (bs := lettersL y) (by omega)
    refine ⟨Str.ofString "", D4, ((prodsL (lettersL x) (lettersL y)).map lettersL).map txt, rfl, rfl, .inl (SqL.of hD5), ?_, ?_⟩
    · rw [lens_txt, prods_letters _ _ ax ay, zl, txt_empty, txt_len]
      simp
      omega
    rw [join_txt, prods_letters _ _ ax ay, sum_int, prods_sign]
    refine ⟨_, zL (lettersL x) (lettersL y), rfl, small1000 (by omega), ?_⟩
    have e := q H3 ((s1.trans s2).trans s3)
    unfold two at e
    rw [Int.natCast_add, Int.natCast_add] at e
    exact e
end


end T25

namespace T25
open PySem PySem.Spec PyProof.Rows L2 Tm
abbrev sIden : Stmt := topS 17
theorem scIden : FnScope ["size"] ["size"] (defScope sIden) := ⟨rfl, rfl, rfl, by decide +kernel, rfl, by decide +kernel, by decide +kernel⟩
section
variable {P : Program} {w : World} {K : PySem.W.Frag} {mg : Str → Option Value} {base : Heap}
theorem ok_mult {f fC fI fT fL fO fS pd : Addr} {fd fdC fdI fdT fdL fdO fdS : FuncData} {t : Tok} (F : Fun K "multiply" "multiply" sMult f fd) (FC : Fun K "check_string" "check_string" sChkS fC fdC) (bC : Binds K fdC ["text"] []) (gC : mg "check_string" = some (.ref fC))
    (FI : Fun K "is_string" "is_string" sIsStr fI fdI) (bI : Binds K fdI ["text"] []) (gI : mg "is_string" = some (.ref fI)) (FT : Fun K "product_of_two" "product_of_two" sTwo fT fdT) (bT : Binds K fdT ["one", "other"] []) (gT : mg "product_of_two" = some (.ref fT))
    (FL : Fun K "letters_of" "letters_of" sLettersOf fL fdL) (bL : Binds K fdL ["text"] []) (gL : mg "letters_of" = some (.ref fL))
    (FO : Fun K "sign_of" "sign_of" sSignOf fO fdO) (bO : Binds K fdO ["text"] []) (gO : mg "sign_of" = some (.ref fO)) (FS : Fun K "signed" "signed" sSigned fS fdS) (bS : Binds K fdS ["turns", "letters"] []) (gS : mg "signed" = some (.ref fS))
    (gA : mg "STRING_LETTERS" = some (.str (Str.ofString "1XZW") t)) (gD : mg "PRODUCTS" = some (.ref pd)) (KD : ∀ a ∈ Al, ∀ b ∈ Al, KDct K w pd (txt [a, b]) (tv (pP a b))) (ml : mg "len" = none) (ms : mg "sum" = none) (mz : mg "zip" = none) (ma : mg "all" = none) :
    FnR P w K mg base CX0 4 f spMult := by
  have GL : FnOk P w K mg base CX0 1 fL fdL ["text"] spLetters := ok_letters FL
  have GC : FnOk P w K mg base CX0 3 fC fdC ["text"] spChkS := ok_chks FC FI bI gI FL bL gL gA ma
  have GT : FnOk P w K mg base CX0 3 fT fdT ["one", "other"] spTwo := ok_two FT FL bL gL FO bO gO FS bS gS gD KD ml ms mz
  rcases F.ex with ⟨_, _, _, _, _, _, cdv, _, _, rfl, look, code⟩
  refine FnR.imp (StX.fn_star (ps := []) (pv := "strings") (sp := spMultT) (k := 3) look code scMult StX.cxUp_none ?bind ?body) ?imp
  case bind =>
    intro us rest h
    match us, rest, h with
    | [], [], _ => rfl
    | [], r :: rs, _ => rfl
  case imp =>
    rintro vs H Q E ⟨n, xss, rfl, hn, few, all, q⟩
    refine ⟨[], _, rfl, rfl, ?_, fun p np => ⟨p, n, xss, rfl, upd_same, hn, few, all, fun H' s' => q H' ((same_upd np).trans s')⟩⟩
    rw [List.length_map]
    exact Nat.le_of_lt (small1000 (by omega))
  case body =>
    intro A outer s H vs Q E hr h
    obtain ⟨p, n, xss, rfl, hp, hn, few, all, q⟩ := h
    have hr1 : Room 1 _ := hr.mono (by decide)
    refine ⟨_, PSs.nox (pss_cons (ps_for PassesOwn.never rfl (pi_tup (pv 0)) (pg_name (i := 1) scMult.nd rfl (.inl rfl)) (pss_one (ps_expr (pe_call GC hr (by rfl) gC FC.kp bC .nil pass0 (pa_cons (pv 1) pa_nil)))))
      (pss_cons (ps_if (pt_cmpR op_gt (pe_callB call_lenI (by rfl) ml PySem.boot_len (pa_cons (pe_setI (own := [("text", 1)]) (g := gName 1) rfl scMult.nd (pi_tup (pv 0)) (blkOk_by (own := [("text", 1)]) (N := ["strings", "text", "total"]) (sc := defScope sMult) (by decide +kernel))
          (fun _ _ _ _ _ => pg_name (i := 1) scMult.nd rfl (Or.inl rfl)) (fun _ _ _ _ _ => pe_callB call_len_str (by rfl) ml PySem.boot_len (pa_cons (pe_call GL hr1 (by rfl) gL FL.kp bL .nil pass0 (pa_cons (pv 1) pa_nil)) pa_nil))) pa_nil)) pe_int (nomark _)) pss_never pss_nil)
      (pss_cons (ps_if (pt_cmpR op_eq (pe_callB call_len_seq (by rfl) ml PySem.boot_len (pa_cons (pv 0) pa_nil)) pe_int (nomark _)) (pss_one (ps_ret pe_str)) pss_nil)
      (pss_cons (ps_set (i := 2) scMult.nd rfl (.inl rfl) (pe_ix ix_tup (pv 0) pe_int (fun _ _ => rfl)))
      (pss_cons (ps_for PassesOwn.never rfl (pi_tup (pe_slice sl_tup (pv 0) (po_some pe_int) po_none)) (pg_name (i := 1) scMult.nd rfl (.inl rfl)) (pss_one (ps_set (i := 2) scMult.nd rfl (.inl rfl) (pe_call GT hr (by rfl) gT FT.kp bT .nil pass0 (pa_cons (pv 2) (pa_cons (pv 1) pa_nil))))))
      (pss_one (ps_ret (pv 2)))))))), ?_⟩
    have len : (xss.map tv).length = xss.length := List.length_map ..
    have at_i : ∀ {i : Nat} {v : V}, (xss.map tv)[i]? = some v → ∃ x, xss[i]? = some x ∧ v = tv x ∧ Sn n x := by
      intro i v hv
      rw [List.getElem?_map] at hv
      cases ex : xss[i]? with
      | none => rw [ex] at hv; cases hv
      | some x =>
        rw [ex] at hv
        exact ⟨x, rfl, (Option.some.inj hv).symm, all x (List.mem_of_getElem? ex)⟩
    refine ⟨_, rfl, p, rfl, ⟨_, .inl (.inl hp)⟩, ?_⟩
    refine for_it (walk_tup (xs := xss.map tv)) (fun i σ H' => ∃ y, σ = [some (.ref p), y, none] ∧ Same H H') ⟨none, rfl, fun _ _ h => h⟩ (fun i σ H' _ ⟨_, _, s1⟩ => .inl (.inl (s1 _ _ hp))) ?_ ?_
    · rintro i v σ H1 H2 hi ⟨y, rfl, s1⟩ ⟨rfl, hv⟩
      obtain ⟨x, ex, rfl, hx⟩ := at_i hv
      obtain ⟨zx, lx, ax⟩ := hx.len
      exact ⟨_, rfl, x, rfl, by omega, ax, fun H3 s3 => ⟨_, rfl, s1.trans s3⟩⟩
    rintro σ H1 ⟨y, rfl, s1⟩
    refine ⟨_, rfl, p, rfl, ⟨_, .inl (.inl (s1 _ _ hp))⟩, fun D nD => ?_⟩
    refine setI_tup (K := K) (a := p) (xs := xss.map tv) (fun i H' => Same H1 H' ∧ ∃ (S : Int → Bool) (c : Nat), H' D = some (SetO w D S c) ∧ (∀ j, S j = decide (j = (n : Int) ∧ 0 < i)) ∧ c ≤ 1 ∧ (0 < i → c = 1) ∧ (i = 0 → c = 0))
      ⟨same_upd nD, _, 0, upd_same, fun j => (decide_eq_false (by omega)).symm, by omega, fun h => absurd h (Nat.lt_irrefl 0), fun _ => rfl⟩ (fun i H' _ hv => .inl (.inl (hv.1 _ _ (s1 _ _ hp)))) ?_ ?_
    · rintro i v H2 hv ⟨s2, S, c, hD, hS, c1, ci, c0⟩
      obtain ⟨x, ex, rfl, hx⟩ := at_i hv
      obtain ⟨zx, lx, ax⟩ := hx.len
      refine ⟨rfl, ?_⟩
      refine ⟨_, rfl, x, rfl, Nat.le_of_lt (small1000 (by omega)), _, rfl, by rw [txt_len]; exact Nat.le_of_lt (small1000 (by omega)), _, S, c, rfl, hD, by unfold scanBound; omega, same_put s2 nD, _, _, upd_same, ?_, ?_, ?_, ?_⟩
      all_goals (have ek : (((txt (lettersL x)).length : Nat) : Int) = (n : Int) := by rw [txt_len, lx])
      all_goals (have eS : S (((txt (lettersL x)).length : Nat) : Int) = decide (0 < i) := by rw [hS, ek]; by_cases z : 0 < i <;> simp [z])
      · intro j
        show (S j || decide (j = (((txt (lettersL x)).length : Nat) : Int))) = _
        rw [hS, ek]
        by_cases z : j = (n : Int) <;> simp [z]
      · rw [eS]
        by_cases z : 0 < i
        · rw [decide_eq_true z, if_pos rfl]; exact c1
        · rw [decide_eq_false z, if_neg Bool.false_ne_true, c0 (by omega)]
          exact Nat.le_refl _
      · intro _
        rw [eS]
        by_cases z : 0 < i
        · rw [decide_eq_true z, if_pos rfl]; exact ci z
        · rw [decide_eq_false z, if_neg Bool.false_ne_true, c0 (by omega)]
      · intro z
        omega
    rintro H2 ⟨s2, S, c, hD, hS, c1, ci, c0⟩
    have hp2 : H2 p = some (.tup (xss.map tv)) := s2 _ _ (s1 _ _ hp)
    have no : decide (((1 : Int)) < ((c : Nat) : Int)) = false := decide_eq_false (by omega)
    refine ⟨D, S, c, rfl, hD, by omega, _, _, rfl, rfl, _, rfl, ?_⟩
    rw [no]
    refine iteF ?_
    refine ⟨_, rfl, p, _, rfl, .inr (.inl (.inl hp2)), rfl, _, rfl, ?_⟩
    cases xss with
    | nil =>
      refine iteT ?_
      have e := q H2 (s1.trans s2)
      unfold multL tv at e
      rw [← txt_empty] at e
      exact e
    | cons x0 r =>
      have nz : decide (V.int ((((x0 :: r).map tv).length : Nat) : Int) = V.int 0) = false := decide_eq_false fun z => by
        have z2 := V.int.inj z
        rw [List.length_map, List.length_cons] at z2
        omega
      rw [nz]
      refine iteF ?_
      refine ⟨_, rfl, p, _, _, tv x0, rfl, rfl, .inl (.inl hp2), atI_nat (j := 0) (xs := (x0 :: r).map tv) rfl, ?_⟩
      have whole : ¬ (HT.sIx ((x0 :: r).map tv).length 0 (some 1) = 0 ∧ HT.sIx ((x0 :: r).map tv).length ((x0 :: r).map tv).length none = ((x0 :: r).map tv).length) := by
        rintro ⟨z, _⟩
        have z2 : HT.sIx ((x0 :: r).map tv).length 0 (some ((1 : Nat) : Int)) = 0 := z
        rw [HT.sIx_nat, List.length_map, List.length_cons] at z2
        omega
      refine ⟨_, rfl, 1, rfl, p, _, rfl, .inl (.inl hp2), whole, fun o no => ?_⟩
      have ecut : cutV ((x0 :: r).map tv) (some 1) none = r.map tv := cutV_drop ((x0 :: r).map tv) 1
      rw [ecut]
      refine ⟨o, rfl, ⟨_, .inl (.inl upd_same)⟩, ?_⟩
      have h0 : Sn n x0 := all x0 List.mem_cons_self
      have hr' : ∀ y ∈ r, Sn n y := fun y hy => all y (List.mem_cons_of_mem _ hy)
      have lenr : (r.map tv).length = r.length := List.length_map ..
      refine for_it (walk_tup (xs := r.map tv)) (fun i σ H' => ∃ y, σ = [some (.ref p), y, some (tv ((r.take i).foldl two x0))] ∧ Same (upd H2 o (.tup (r.map tv))) H') ⟨_, rfl, fun _ _ h => h⟩ (fun i σ H' _ ⟨_, _, s3⟩ => .inl (.inl (s3 _ _ upd_same))) ?_ ?_
      · rintro i v σ H3 H4 hi ⟨y, rfl, s3⟩ ⟨rfl, hv⟩
        rw [lenr] at hi
        rw [List.getElem?_map, List.getElem?_eq_getElem hi] at hv
        have ev : v = tv r[i] := (Option.some.inj hv).symm
        subst ev
        have part : Sn n ((r.take i).foldl two x0) := Sn.fold h0 fun y hy => hr' y (List.mem_of_mem_take hy)
        refine ⟨_, rfl, _, rfl, n, _, r[i], rfl, hn, part, hr' _ (List.getElem_mem hi), fun H5 s5 => ⟨some (tv r[i]), ?_, s3.trans s5⟩⟩
        rw [List.take_succ_eq_append_getElem hi, fold_snoc]
        rfl
      · rintro σ H3 ⟨y, rfl, s3⟩
        rw [lenr, List.take_length]
        exact ⟨_, rfl, q H3 ((s1.trans s2).trans ((same_upd no).trans s3))⟩
theorem ok_iden {f : Addr} {fd : FuncData} (F : Fun K "identity" "identity" sIden f fd) : FnOk P w K mg base CX0 1 f fd ["size"] spIden := by
  refine F.ok scIden (fun vs H Q E h => ?_) (fun cdv A outer s H vs Q E hr h => ?_)
  · obtain ⟨n, rfl, _⟩ := h
    rfl
  · obtain ⟨n, rfl, hn, q⟩ := h
    refine ⟨_, pss_one (ps_ret (pe_op op_times pe_str (pv 0))), ?_⟩
    exact ⟨_, rfl, 49, n, (by decide +kernel), rfl, by omega, q⟩
end

abbrev sLString : Stmt := topS 38
theorem scLString : FnScope ["_law_bag_here", "_law_size_here", "_law_k"] ["_law_bag_here", "_law_size_here"] (defScope sLString) := ⟨rfl, rfl, rfl, by decide +kernel, rfl, by decide +kernel, by decide +kernel⟩
section
variable {P : Program} {w : World} {K : PySem.W.Frag} {mg : Str → Option Value} {base : Heap}
theorem ok_lstring {f fP fO fS : Addr} {fd fdP fdO fdS : FuncData} (F : Fun K "_law_string" "_law_string" sLString f fd) (FP : Fun K "_law_pull" "_law_pull" sPull fP fdP) (bP : Binds K fdP ["_law_bag_here", "_law_many"] []) (gP : mg "_law_pull" = some (.ref fP))
    (FO : Fun K "_law_of" "_law_of" sOf fO fdO) (bO : Binds K fdO ["_law_bag_here", "_law_things"] []) (gO : mg "_law_of" = some (.ref fO)) (FS : Fun K "_law_signed" "_law_signed" sLSigned fS fdS) (bS : Binds K fdS ["_law_mturned", "_law_body_here"] []) (gS : mg "_law_signed" = some (.ref fS))
    (ml : mg "len" = none) (mr : mg "range" = none) : FnOk P w K mg base CX0 3 f fd ["_law_bag_here", "_law_size_here"] spString := by
  have GP : FnOk P w K mg base CX0 1 fP fdP ["_law_bag_here", "_law_many"] spPull := ok_pull FP ml
  have GO : FnOk P w K mg base CX0 2 fO fdO ["_law_bag_here", "_law_things"] (spOf K) := ok_of FO FP bP gP ml
  have GS : FnOk P w K mg base CX0 1 fS fdS ["_law_mturned", "_law_body_here"] spLSigned := ok_lsigned FS
  refine F.ok scLString (fun vs H Q E h => ?_) (fun cdv A outer s H vs Q E hr h => ?_)
  · obtain ⟨b, l, n, rfl, _⟩ := h
    rfl
  · obtain ⟨b, l, n, rfl, B0, hn, q⟩ := h
    have hr1 : Room 1 _ := hr.mono (by decide)
    refine ⟨_, pss_one (ps_ret (pe_call GS hr1 (by rfl) gS FS.kp bS .nil pass0 (pa_cons (pe_call GP hr1 (by rfl) gP FP.kp bP .nil pass0 (pa_cons (pv 0) (pa_cons pe_int pa_nil))) (pa_cons (pe_join pe_str (pe_lc (own := [("_law_k", 2)]) (g := gName 2) (tt := tYes) rfl scLString.nd (pi_range1 (by rfl) mr (pa_cons (pv 1) pa_nil)) (blkOk_by (own := [("_law_k", 2)]) (N := ["_law_bag_here", "_law_size_here", "_law_k"]) (sc := defScope sLString) (by decide +kernel))
        (fun _ _ _ _ _ => pg_name (i := 2) scLString.nd rfl (Or.inl rfl)) (fun _ _ _ _ _ => pts_nil) (fun _ _ _ _ _ => (pe_call GO hr (by rfl) gO FO.kp bO .nil pass0 (pa_cons (pv 0) (pa_cons pe_str pa_nil)))))) pa_nil)))), ?_⟩
    refine ⟨_, rfl, b, l, 2, rfl, B0, by decide, by decide, fun J d kj BJ d0 d1 => ?_⟩
    refine ⟨⟨_, rfl⟩, _, rfl, _, rfl, by omega, by omega, fun D nD => ?_⟩
    have nDb : D ≠ b := BJ.nb nD
    refine lc_range (lo := 0) (n := ((n : Nat) : Int).toNat) (fun i H' => Kp b J H' ∧ Bag H' b l ∧ ∃ cs : List Nat, H' D = some (.lst (cs.map sig)) ∧ cs.length = i ∧ Al4 cs)
      ⟨Kp.new nD, BJ.new nD, [], upd_same, rfl, fun c hc => absurd hc List.not_mem_nil⟩ ?_ ?_
    · rintro j H' hj ⟨kp, B', cs, hD, hlen, hmem⟩
      refine ⟨rfl, ?_⟩
      refine ⟨_, rfl, b, l, _, (five.map sig), rfl, B', .inr ⟨_, rfl, by rw [txt_five, txt_len]; decide, by rw [txt_five, txt_cps]⟩, by decide, by decide, fun H2 x kp2 B2 hx => ?_⟩
      obtain ⟨c, hc, rfl⟩ := List.mem_map.mp hx
      have hcA : c ∈ Al := (show ∀ c ∈ five, c ∈ Al by decide) c hc
      refine ⟨_, kp2 _ _ nDb hD, by rw [List.length_map, hlen]; exact small1000 (by omega), (kp.trans kp2).put nD, B2.put nDb (BJ.nl nD), cs ++ [c], ?_, by rw [List.length_append, hlen]; rfl, ?_⟩
      · rw [upd_same, List.map_append]
        rfl
      · intro c2 h2
        rcases List.mem_append.mp h2 with h2 | h2
        · exact hmem _ h2
        · rw [List.mem_singleton.mp h2]; exact hcA
    rintro H7 ⟨k7, B7, cs, hD7, hcl, hcm⟩
    have hu : H7 D = some (.lst ((cs.map fun c => txt [c]).map V.str)) := by
      rw [hD7, List.map_map]
      rfl
    refine ⟨Str.ofString "", D, cs.map (fun c => txt [c]), rfl, rfl, .inl (SqL.of hu), ?_, ?_⟩
    · rw [len_ones, txt_empty, txt_len]; simp; omega
    rw [join_sigs]
    refine ⟨_, cs, rfl, small1000 (by omega), ?_⟩
    rw [signed_wd]
    exact q H7 _ (kj.trans k7) B7 ⟨_, cs, rfl, by omega, hcm⟩
end


end T25

namespace T25
open PySem PySem.Spec PyProof.Rows L2 Tm
abbrev sLTab : Stmt := topS 35
abbrev sLTimes : Stmt := topS 36
abbrev sLTAll : Stmt := topS 37
theorem scLTab : FnScope [] [] (defScope sLTab) := ⟨rfl, rfl, rfl, by decide +kernel, rfl, by decide +kernel, by decide +kernel⟩
theorem scLTimes : FnScope ["_law_first", "_law_last", "_law_known", "_law_found", "_law_mturned", "_law_one", "_law_other", "_law_sign"] ["_law_first", "_law_last"] (defScope sLTimes) := ⟨rfl, rfl, rfl, by decide +kernel, rfl, by decide +kernel, by decide +kernel⟩
theorem scLTAll : FnScope ["_law_strings_in", "_law_size_here", "_law_found", "_law_one"] ["_law_strings_in", "_law_size_here"] (defScope sLTAll) := ⟨rfl, rfl, rfl, by decide +kernel, rfl, by decide +kernel, by decide +kernel⟩
section
variable {P : Program} {w : World} {K : PySem.W.Frag} {mg : Str → Option Value} {base : Heap}
theorem ok_ltab {f : Addr} {fd : FuncData} (F : Fun K "_law_table_of_products" "_law_table_of_products" sLTab f fd) : FnOk P w K mg base CX0 1 f fd [] spTab := by
  refine F.ok scLTab (fun vs H Q E h => ?_) (fun cdv A outer s H vs Q E hr h => ?_)
  · obtain ⟨rfl, _⟩ := h
    rfl
  · obtain ⟨rfl, q⟩ := h
    refine ⟨_, pss_one (ps_ret (pe_disp16 (ps := ptabS) (.cons pe_str pe_str (.cons pe_str pe_str (.cons pe_str pe_str (.cons pe_str pe_str (.cons pe_str pe_str (.cons pe_str pe_str (.cons pe_str pe_str (.cons pe_str pe_str (.cons pe_str pe_str (.cons pe_str pe_str (.cons pe_str pe_str (.cons pe_str pe_str (.cons pe_str pe_str (.cons pe_str pe_str (.cons pe_str pe_str (.cons pe_str pe_str (.nil))))))))))))))))) rfl)), fun p np => ?_⟩
    rw [tab_is]
    exact q _ p (same_upd np) np upd_same
theorem ok_ltimes {f fT fY fS : Addr} {fd fdT fdY fdS : FuncData} (F : Fun K "_law_times" "_law_times" sLTimes f fd) (FT : Fun K "_law_table_of_products" "_law_table_of_products" sLTab fT fdT) (bT : Binds K fdT [] []) (gT : mg "_law_table_of_products" = some (.ref fT))
    (FY : Fun K "_law_body" "_law_body" sLBody fY fdY) (bY : Binds K fdY ["_law_text_here"] []) (gY : mg "_law_body" = some (.ref fY)) (FS : Fun K "_law_signed" "_law_signed" sLSigned fS fdS) (bS : Binds K fdS ["_law_mturned", "_law_body_here"] []) (gS : mg "_law_signed" = some (.ref fS))
    (mi : mg "int" = none) (mz : mg "zip" = none) : FnOk P w K mg base CX0 2 f fd ["_law_first", "_law_last"] spTwo := by
  have GT : FnOk P w K mg base CX0 1 fT fdT [] spTab := ok_ltab FT
  have GY : FnOk P w K mg base CX0 1 fY fdY ["_law_text_here"] spLBody := ok_lbody FY
  have GS : FnOk P w K mg base CX0 1 fS fdS ["_law_mturned", "_law_body_here"] spLSigned := ok_lsigned FS
  refine F.ok scLTimes (fun vs H Q E h => ?_) (fun cdv A outer s H vs Q E hr h => ?_)
  · obtain ⟨n, x, y, rfl, _⟩ := h
    rfl
  · obtain ⟨n, x, y, rfl, hn, hx, hy, q⟩ := h
    have hu := hu_of hr
    refine ⟨_, pss_cons (ps_par (i := 2) (j := 3) rfl scLTimes.nd rfl rfl (by decide) rfl rfl (pa_cons (pe_call0 GT hr (by rfl) gT FT.kp bT .nil pass0) (pa_cons pe_str pa_nil)) rfl)
      (pss_cons (ps_set (i := 4) scLTimes.nd rfl (.inl rfl) (pe_op op_add (pe_callTy call_int1 (by rfl) mi boot_int (pa_cons (pe_cmpR op_eq (pe_slice sl_str (pv 0) po_none (po_some pe_int)) pe_str (nomark _)) pa_nil)) (pe_callTy call_int1 (by rfl) mi boot_int (pa_cons (pe_cmpR op_eq (pe_slice sl_str (pv 1) po_none (po_some pe_int)) pe_str (nomark _)) pa_nil))))
      (pss_cons (ps_for PassesOwn.never rfl (pi_zipS (by rfl) mz (pa_cons (pe_call GY hr (by rfl) gY FY.kp bY .nil pass0 (pa_cons (pv 0) pa_nil)) (pa_cons (pe_call GY hr (by rfl) gY FY.kp bY .nil pass0 (pa_cons (pv 1) pa_nil)) pa_nil)))
        (pg_tup rfl (pgs_cons (pg_name (i := 5) scLTimes.nd rfl (.inl rfl)) (pgs_cons (pg_name (i := 6) scLTimes.nd rfl (.inl rfl)) pgs_nil)))
        (pss_cons (ps_set (i := 7) scLTimes.nd rfl (.inl rfl) (pe_dget hu (pv 2) (pe_op op_add_str (pv 5) (pv 6)) (fun _ _ => rfl)))
        (pss_cons (ps_set (i := 3) scLTimes.nd rfl (.inl rfl) (pe_op op_add_str (pv 3) (pe_ix ix_str (pv 7) (pe_un un_neg pe_int) (fun _ _ => rfl))))
        (pss_one (ps_set (i := 4) scLTimes.nd rfl (.inl rfl) (pe_op op_add (pv 4) (pe_callTy call_int1 (by rfl) mi boot_int (pa_cons (pe_cmpR op_eq (pe_slice sl_str (pv 7) po_none (po_some pe_int)) pe_str (nomark _)) pa_nil))))))))
      (pss_one (ps_ret (pe_call GS hr (by rfl) gS FS.kp bS .nil pass0 (pa_cons (pv 4) (pa_cons (pv 3) pa_nil))))))), ?_⟩
    obtain ⟨sx, lx, ax⟩ := hx.len
    obtain ⟨sy, ly, ay⟩ := hy.len
    have tx : (txt x).length ≤ sizeLine := by rw [txt_len]; exact Nat.le_of_lt (small1000 (by omega))
    have ty : (txt y).length ≤ sizeLine := by rw [txt_len]; exact Nat.le_of_lt (small1000 (by omega))
    refine ⟨rfl, fun H1 p s1 np hp => ⟨_, _, rfl, ?_⟩⟩
    refine ⟨_, rfl, 1, rfl, _, rfl, tx, rfl, .inr ⟨_, rfl, _, rfl, 1, rfl, _, rfl, ty, rfl, .inr ⟨_, rfl, _, _, rfl, rfl, ?_⟩⟩⟩
    refine ⟨_, rfl, x, rfl, by omega, _, rfl, y, rfl, by omega, lettersL x, lettersL y, rfl, ?_⟩
    have e0 : (if decide (V.str (cutS (txt x) none (some 1)) = V.str (Str.ofString "-")) = true then (1 : Int) else 0) + (if decide (V.str (cutS (txt y) none (some 1)) = V.str (Str.ofString "-")) = true then (1 : Int) else 0) = ((signL x + signL y : Nat) : Int) := by
      rw [first_is, first_is, bit_sign, bit_sign, Int.natCast_add]
    refine for_it walk_zipS (fun i σ H' => ∃ y5 y6 y7 : Option V, σ = [some (tv x), some (tv y), some (.ref p), some (tv ((zL (lettersL x) (lettersL y)).take i)), some (.int ((signL x + signL y + ((List.zipWith pS (lettersL x) (lettersL y)).take i).sum : Nat) : Int)), y5, y6, y7] ∧ Same H1 H')
      ⟨none, none, none, ?_, fun _ _ h => h⟩ (fun _ _ _ _ _ => trivial) ?_ ?_
    · rw [txt_empty]
      dsimp only
      rw [e0]
      rfl
    · rintro i v σ H2 H3 hi ⟨y5, y6, y7, rfl, s2⟩ ⟨T, c, d, rfl, nT, rfl, hc, hd⟩
      have hca : c ∈ Al := ax c (List.mem_of_getElem? hc)
      have hda : d ∈ Al := ay d (List.mem_of_getElem? hd)
      have pf := p_form c hca d hda
      refine ⟨T, _, rfl, .inl (.inl upd_same), rfl, _, _, rfl, _, _, rfl, rfl, ?_⟩
      have hp3 := (same_upd (o := .tup [sig c, sig d]) nT) _ _ (s2 _ _ hp)
      have bit := bit_sign (pP c d)
      have zp : (txt (pP c d)).length ≤ sizeLine := by rw [txt_len]; exact Nat.le_of_lt (small1000 (by omega))
      have zl := zL_len (as := lettersL x) (bs := lettersL y) (by omega)
      refine ⟨_, rfl, _, rfl, _, rfl, _, _, rfl, rfl, by show 1 + 1 ≤ sizeLine; decide, p, tv (pP c d), rfl, ?_, ?_⟩
      · have e := DGet.k (k := Sum.inr (txt [c, d])) hp3
        rw [tab_at c hca d hda] at e
        have e2 : (V.str ((⟨#[c]⟩ : Str) ++ ⟨#[d]⟩)) = V.str (txt [c, d]) := congrArg V.str (txt_app [c] [d])
        exact (congrArg (fun z => DGet (upd H2 T (.tup [sig c, sig d])) p z (some (tv (pP c d)))) e2).mpr e
      refine ⟨_, rfl, _, rfl, _, rfl, txt (pP c d), _, pL c d, rfl, rfl, zp, by rw [txt_cps]; exact p_last c hca d hda, _, _, rfl, rfl, ?_, ?_⟩
      · rw [txt_len, List.length_take]
        show _ + 1 ≤ sizeLine
        exact small1000 (by omega)
      refine ⟨_, rfl, _, rfl, 1, rfl, _, rfl, zp, rfl, .inr ⟨_, rfl, _, _, rfl, rfl, some (sig c), some (sig d), some (tv (pP c d)), ?_, s2.trans (same_upd nT)⟩⟩
      dsimp only
      rw [first_is, bit, zL_take _ _ hc hd, zS_take _ _ hc hd]
      have e1 : txt ((zL (lettersL x) (lettersL y)).take i) ++ (⟨#[pL c d]⟩ : Str) = txt ((zL (lettersL x) (lettersL y)).take i ++ [pL c d]) := txt_app _ [pL c d]
      have e2 : ((signL x + signL y + ((List.zipWith pS (lettersL x) (lettersL y)).take i).sum : Nat) : Int) + ((signL (pP c d) : Nat) : Int) = ((signL x + signL y + (((List.zipWith pS (lettersL x) (lettersL y)).take i).sum + pS c d) : Nat) : Int) := by
        show _ + ((pS c d : Nat) : Int) = _
        omega
      rw [e1, e2]
      rfl
    · rintro σ H2 ⟨y5, y6, y7, rfl, s2⟩
      have zl := zL_len (as := lettersL x) (bs := lettersL y) (by omega)
      have full : (zL (lettersL x) (lettersL y)).take (min (lettersL x).length (lettersL y).length) = zL (lettersL x) (lettersL y) := List.take_of_length_le (by omega)
      have full2 : (List.zipWith pS (lettersL x) (lettersL y)).take (min (lettersL x).length (lettersL y).length) = List.zipWith pS (lettersL x) (lettersL y) := List.take_of_length_le (by rw [List.length_zipWith]; exact Nat.le_refl _)
      rw [full, full2]
      refine ⟨_, rfl, _, rfl, _, zL (lettersL x) (lettersL y), rfl, small1000 (by omega), ?_⟩
      exact q H2 (s1.trans s2)
theorem ok_ltall {f fM fT fY fS : Addr} {fd fdM fdT fdY fdS : FuncData} (F : Fun K "_law_times_all" "_law_times_all" sLTAll f fd) (FM : Fun K "_law_times" "_law_times" sLTimes fM fdM) (bM : Binds K fdM ["_law_first", "_law_last"] []) (gM : mg "_law_times" = some (.ref fM))
    (FT : Fun K "_law_table_of_products" "_law_table_of_products" sLTab fT fdT) (bT : Binds K fdT [] []) (gT : mg "_law_table_of_products" = some (.ref fT))
    (FY : Fun K "_law_body" "_law_body" sLBody fY fdY) (bY : Binds K fdY ["_law_text_here"] []) (gY : mg "_law_body" = some (.ref fY)) (FS : Fun K "_law_signed" "_law_signed" sLSigned fS fdS) (bS : Binds K fdS ["_law_mturned", "_law_body_here"] []) (gS : mg "_law_signed" = some (.ref fS))
    (mi : mg "int" = none) (mz : mg "zip" = none) : FnOk P w K mg base CX0 3 f fd ["_law_strings_in", "_law_size_here"] (spTAll K) := by
  have GM : FnOk P w K mg base CX0 2 fM fdM ["_law_first", "_law_last"] spTwo := ok_ltimes FM FT bT gT FY bY gY FS bS gS mi mz
  refine F.ok scLTAll (fun vs H Q E h => ?_) (fun cdv A outer s H vs Q E hr h => ?_)
  · obtain ⟨n, a, xss, rfl, _⟩ := h
    rfl
  · obtain ⟨n, a, xss, rfl, ha, hn, few, all, q⟩ := h
    refine ⟨_, pss_cons (ps_set (i := 2) scLTAll.nd rfl (.inl rfl) (pe_op op_times pe_str (pv 1)))
      (pss_cons (ps_for PassesOwn.never rfl (pi_list (pv 0)) (pg_name (i := 3) scLTAll.nd rfl (.inl rfl)) (pss_one (ps_set (i := 2) scLTAll.nd rfl (.inl rfl) (pe_call GM hr (by rfl) gM FM.kp bM .nil pass0 (pa_cons (pv 2) (pa_cons (pv 3) pa_nil))))))
      (pss_one (ps_ret (pv 2)))), ?_⟩
    refine ⟨_, rfl, 49, n, (by decide +kernel), rfl, by omega, ?_⟩
    have len : (xss.map tv).length = xss.length := List.length_map ..
    refine ⟨_, rfl, a, rfl, ⟨_, ha⟩, ?_⟩
    refine for_it (walk_list (xs := xss.map tv)) (fun i σ H' => ∃ y, σ = [some (.ref a), some (.int ((n : Nat) : Int)), some (tv ((xss.take i).foldl two (List.replicate n 49))), y] ∧ Same H H') ⟨none, rfl, fun _ _ h => h⟩ (fun i σ H' _ ⟨_, _, s1⟩ => s1.seq ha) ?_ ?_
    · rintro i v σ H1 H2 hi ⟨y, rfl, s1⟩ ⟨rfl, hv⟩
      rw [len] at hi
      rw [List.getElem?_map, List.getElem?_eq_getElem hi] at hv
      have ev : v = tv xss[i] := (Option.some.inj hv).symm
      subst ev
      have part : Sn n ((xss.take i).foldl two (List.replicate n 49)) := Sn.fold (Sn.one n) fun y hy => all y (List.mem_of_mem_take hy)
      refine ⟨_, rfl, _, rfl, n, _, xss[i], rfl, hn, part, all _ (List.getElem_mem hi), fun H3 s3 => ⟨some (tv xss[i]), ?_, s1.trans s3⟩⟩
      rw [List.take_succ_eq_append_getElem hi, fold_snoc]
      rfl
    · rintro σ H1 ⟨y, rfl, s1⟩
      rw [len, List.take_length]
      exact ⟨_, rfl, q H1 s1⟩
end


end T25

/-! try with several except clauses that give the exception a name -/
namespace Tm
open PySem PySem.Spec PyProof.Rows L2
section
variable {X : Cx} {pins : List (Addr × Obj)} {σ : L2.St} {H : Hp} {a : Addr} {cls : Value} {d : Option Addr} {s : Shared}
/-- the exception at a has been caught in this frame, nothing has been done with it -/
def InHand (X : Cx) (pins : List (Addr × Obj)) (σ : L2.St) (H : Hp) (a : Addr) (cls : Value) (d : Option Addr) (s : Shared) : Prop :=
  ∃ (B : Heap) (s0 : Shared), Inv X pins σ H s0 ∧ (∀ b o, s0.heap.get? b = some o → b ∉ frs X.stack → B.get? b = some o) ∧ s0.heap.UpToSlots s.heap ∧ HandSPX.FlyingZ B X.stack a (Zc cls d) s.heap ∧ H a = none ∧ s.os = s0.os ∧ AllBare s.gens
theorem InHand.inv (c : InHand X pins σ H a cls d s) : Inv X pins σ H s := by
  obtain ⟨B, s0, inv, ground, slots, fly, _, os, bare⟩ := c
  exact inv.landed ground fly.1 slots os bare
theorem InHand.new (c : InHand X pins σ H a cls d s) : H a = none := by
  obtain ⟨_, _, _, _, _, _, n, _⟩ := c
  exact n
/-- the suite of a clause may begin -/
theorem InHand.suite (c : InHand X pins σ H a cls d s) (top : X.stack = X.env :: X.outer) (fr : X.env.frame = some X.env.locals) :
    ∃ oe : Obj, s.heap.get? a = some oe ∧ Zc cls d oe ∧ (∃ vs, oe.data = .fields vs) ∧ Inv (X.suite a ((a, oe) :: (X.pn ++ pins))) [] σ H s := by
  have inv := c.inv
  obtain ⟨B, s0, _, _, _, fly, new, _, _⟩ := c
  obtain ⟨oe, vs, there, is, dat⟩ := fly.there
  have off : a ∉ frs X.stack := fun hm => by
    obtain ⟨_, o2, there2, other⟩ := fly.2.2.1.mem hm
    rw [there] at there2
    cases there2
    exact other _ dat
  have offL : a ≠ X.env.locals := fun e => off (by
    rw [top]
    exact List.mem_filterMap.mpr ⟨X.env, List.mem_cons_self, by rw [fr, e]⟩)
  have offF : a ∉ X.fs := fun hm => off (by
    obtain ⟨env, he, q⟩ := List.mem_filterMap.mp hm
    rw [top]
    exact List.mem_filterMap.mpr ⟨env, List.mem_cons_of_mem _ he, q⟩)
  exact ⟨oe, there, is, ⟨vs, dat⟩, inv.suite there dat new offL offF⟩
theorem InHand.again {M : Model} {A : Around} {E : Value → Shared → Prop} {Q : Unit → Shared → Prop} (c : InHand X pins σ H a cls d s) (next : ∀ s', InHand X pins σ H a cls d s' → Q () s') : wpAny M A (setFlight (.ref a) none) Q E s := by
  obtain ⟨B, s0, inv, ground, slots, fly, new, os, bare⟩ := c
  refine HandSPX.lands_againZ fly ?_
  intro h fly2 slots2
  exact next _ ⟨B, s0, inv, ground, slots.trans slots2, fly2, new, os, bare⟩
end
/-- the name of the clause is empty behind its suite -/
def nameless (i : Nat) (D : Ends) : Ends := { nx := fun σ H => D.nx (σ.set i none) H, rt := D.rt, bk := fun σ H => D.bk (σ.set i none) H, ct := fun σ H => D.ct (σ.set i none) H }
abbrev Clause := Value × (Addr → Value → Option Addr → TS)
def wNamed (K : PySem.W.Frag) (i : Nat) (Wout : WX) (D : Ends) : List Clause → WX
  | [] => Wout
  | c :: r => fun cls d σ H => ∃ b, PySem.W.exmOne K cls c.1 = some b ∧ (b = true → ∀ a, H a = none → c.2 a cls d (nameless i D) (σ.set i (some (.ref a))) H) ∧ (b = false → wNamed K i Wout D r cls d σ H)
inductive Clauses (X : Cx) (n : Str) : List ExceptHandler → List Clause → Prop
  | nil : Clauses X n [] []
  | cons {x : Str} {c : Value} {ts : Addr → Value → Option Addr → TS} {st : Stmt} {more : List Stmt} {p q : Pos} {hds : List ExceptHandler} {l : List Clause} (named : Names X x c)
      (suite : ∀ (a : Addr) (oe : Obj) (cls : Value) (d : Option Addr) (pn : List (Addr × Obj)), Zc cls d oe → (∃ vs, oe.data = .fields vs) → PSs (X.suite a ((a, oe) :: pn)) (st :: more) (ts a cls d)) (rest : Clauses X n hds l) :
      Clauses X n (.ExceptHandler (some (.Name x p)) (some n) (st :: more) q :: hds) ((c, ts) :: l)
section
variable {X : Cx} {n : Str} {i : Nat} {Wout : WX} {pins : List (Addr × Obj)} {D : Ends}
/-- the clauses are asked one behind the other -/
theorem clauses_run (top : X.stack = X.env :: X.outer) (fr : X.env.frame = some X.env.locals) (nd : X.N.Nodup) (slot : X.N[i]? = some n) (loc : X.env.kindOf n = some .local) (takes : Takes X Wout) (ok : X.Ok) {a : Addr} :
    ∀ {hds : List ExceptHandler} {l : List Clause}, Clauses X n hds l → ∀ {σ : L2.St} {H : Hp} {cls : Value} {d : Option Addr} {s : Shared}, InHand X pins σ H a cls d s → wNamed X.K i Wout D l cls d σ H →
      wpAny (model X.prog X.w) X.A (handleBy (.ref a) X.env hds) (SP X pins D) X.xe s := by
  intro hds l cl
  induction cl with
  | nil =>
    intro σ H cls d s hand wish
    apply wpAny_handleBy_nil
    obtain ⟨B, s0, inv, ground, slots, fly, new, os, bare⟩ := hand
    obtain ⟨_, _, _, oe, vs, T, oT, ts, there, _, dat, cell, _⟩ := id fly
    have out : wpAny (model X.prog X.w) X.A (setFlight (.ref a) X.env.frame) (fun _ s4 => wpAny (model X.prog X.w) X.A (throw (.ref a) : Sem Flow) (SP X pins D) X.xe s4) X.xe s := by
      rw [fr]
      refine HandSPX.setFlight_upZ fly ?_
      intro h held slots2
      apply wpAny_throw
      apply takes
      exact ⟨a, B, s0, pins, σ, H, cls, d, rfl, inv, ground, slots.trans slots2, Or.inr (Or.inr held), new, os, bare, wish⟩
    unfold PySem.passOn
    apply wpAny_bind
    refine wpAny_field there dat cell ?_
    have some_ : ¬ ((Value.ref T == Value.none) = true) := by simp
    rw [if_neg some_]
    first
      | exact wpAny_bind out
      | exact wpAny_bind (wpAny_pure (wpAny_bind out))
  | @cons x c ts st more p q hds2 l2 named suite rest ih =>
    intro σ H cls d s hand wish
    obtain ⟨b, match_, yes, no⟩ := wish
    obtain ⟨oe, there, is, flds, inS⟩ := hand.suite top fr
    apply wpAny_handleBy_cons _ (by intro z; cases z)
    apply codeAny_handlers_test
    have typed : PySem.W.Looks (model X.prog X.w) s.heap (typeOf (.ref a)) cls := by
      intro A Q E s2 keeps goal
      exact wpAny_typeOf_ref (keeps _ _ there) (by rw [is.1]; exact goal)
    have matched := PySem.W.exm_one (M := model X.prog X.w) hand.inv.kIn typed match_
    have look : ∀ {Q : Value → Shared → Prop} {E : Value → Shared → Prop}, Q c s → wpAny (model X.prog X.w) (X.A.mark (some (.ref a))) (eval (.Name x p) X.env) Q E s := by
      intro Q E goal
      rcases named with ⟨glob, plain, own | ⟨none_, boot, plain2⟩⟩
      · exact ld_glob (X := X.suite a ((a, oe) :: (X.pn ++ pins))) inS glob own goal plain
      · exact ld_blt (X := X.suite a ((a, oe) :: (X.pn ++ pins))) inS glob none_ boot goal plain2 plain
    apply look
    apply matched.here
    cases b with
    | false => exact ih hand (no rfl)
    | true =>
      apply codeAny_handlers_suite_as
      apply hand.again
      intro s2 hand2
      obtain ⟨oe2, there2, is2, flds2, inS2⟩ := hand2.suite top fr
      refine store_ok (X := X.suite a ((a, oe2) :: (X.pn ++ pins))) (v := .ref a) inS2 nd slot (.inl loc) rfl ?_ (.inr loc)
      intro s3 inS3
      apply wpAny_mono ((suite a oe2 cls d (X.pn ++ pins) is2 flds2).run [] s3 _ H _ inS3 (yes rfl a hand.new)) _ (fun _ _ z => z.elim)
      intro flow s4 told
      have leave : ∀ {σ4 : L2.St} {H4 : Hp} {Q : Shared → Prop}, Inv (X.suite a ((a, oe2) :: (X.pn ++ pins))) [] σ4 H4 s4 → (∀ s5, Inv X pins (σ4.set i none) H4 s5 → Q s5) →
          wpAny (model X.prog X.w) X.A (do bindName X.env n .none; unbindBehindTheSuite X.env n q) (fun _ s5 => Q s5) X.xe s4 := fun inv4 goal => gone_ok (inv4.unsuite ok) nd slot loc goal
      match flow, told with
      | .next, ⟨σ4, H4, inv4, goal⟩ => exact leave inv4 fun s5 inv5 => ⟨_, _, inv5, goal⟩
      | .brk, ⟨σ4, H4, inv4, goal⟩ => exact leave inv4 fun s5 inv5 => ⟨_, _, inv5, goal⟩
      | .cont, ⟨σ4, H4, inv4, goal⟩ => exact leave inv4 fun s5 inv5 => ⟨_, _, inv5, goal⟩
      | .ret u, ⟨v4, σ4, H4, inv4, rel, goal⟩ => exact leave inv4 fun s5 inv5 => ⟨_, _, _, inv5, rel, goal⟩
theorem ps_try_named {body : List Stmt} {hd : ExceptHandler} {hds : List ExceptHandler} {l : List Clause} {pos : Pos} {tb : WX → TS} (top : X.stack = X.env :: X.outer) (fr : X.env.frame = some X.env.locals) (nd : X.N.Nodup) (slot : X.N[i]? = some n) (loc : X.env.kindOf n = some .local) (takes : Takes X Wout)
    (within : ∀ (W : WX) (pn : List (Addr × Obj)) (xe : Value → Shared → Prop), Takes (X.tr pn xe) W → PassesOwn (model X.prog X.w) X.A X.env xe → PSs (X.tr pn xe) body (tb W)) (cl : Clauses X n (hd :: hds) l) :
    PS X (.Try body (hd :: hds) [] [] pos) (fun D σ H => tb (wNamed X.K i Wout D l) D σ H) where
  run pins s σ H D inv ask := by
    have ok := inv.ok
    apply wpAny_Try_except
    apply wpAny_mono ((within (wNamed X.K i Wout D l) (X.pn ++ pins) (fun e s1 => wpAny (model X.prog X.w) X.A (noteFrame e X.env) (fun _ s2 => wpAny (model X.prog X.w) X.A (setFlight e none) (fun _ s3 => wpAny (model X.prog X.w) X.A (handleBy e X.env (hd :: hds)) (SP X pins D) X.xe s3) X.xe s2) X.xe s1) ?caught PassesOwn.looking).run [] s σ H D (inv.toTry _) ask) ?done (fun _ _ raised => raised)
    case caught =>
      rintro u s1 ⟨a, B, s0, pins1, σ1, H1, cls, d, rfl, inv1, ground, slots, sky, new, os, bare, wish⟩
      have inv0 : Inv X pins σ1 H1 s0 := inv1.ofTry ok
      have sky1 : Sky B (X.env :: X.outer) a (Zc cls d) X.env.locals s1.heap := top ▸ sky
      refine Sky.land Zc.steady (by rw [ok.frames, top]) fr sky1 ?_
      intro h fly slots2
      refine clauses_run top fr nd slot loc takes ok cl (a := a) ⟨B, s0, inv0, ground, slots.trans slots2, ?_, new, os, bare⟩ wish
      rw [top]
      exact fly
    case done =>
      intro flow s1 told
      match flow, told with
      | .next, ⟨σ1, H1, inv1, goal⟩ => exact wpAny_execs_nil ⟨σ1, H1, inv1.ofTry ok, goal⟩
      | .brk, ⟨σ1, H1, inv1, goal⟩ => exact ⟨σ1, H1, inv1.ofTry ok, goal⟩
      | .cont, ⟨σ1, H1, inv1, goal⟩ => exact ⟨σ1, H1, inv1.ofTry ok, goal⟩
      | .ret u, ⟨v, σ1, H1, inv1, rel, goal⟩ => exact ⟨v, σ1, H1, inv1.ofTry ok, rel, goal⟩
end
end Tm

/-! an exception that is in hand: its fields, and a def that is given it -/
namespace Tm
open PySem PySem.Spec PyProof.Rows L2 L2H
/-- e.f, e the exception at a, of the class cls, with the dict d -/
def tXfA (K : PySem.W.Frag) (a : Addr) (cls : Value) (d : Option Addr) (f : Str) (te : TE) : TE := fun σ H Q => te σ H fun x H1 => x = .ref a ∧ ∃ (C dd : Addr) (fs : List (Str × V)) (v : V), cls = .ref C ∧ XfC K C ∧ PySem.W.findIn K (.ref C) f = some none ∧ d = some dd ∧ H1 dd = some (.xd fs) ∧ fs.lookup f = some v ∧ Q v H1
theorem pe_pinned {X : Cx} {a : Addr} {oe : Obj} {cls : Value} {d : Option Addr} {e : Expr} {te : TE} {pos : Pos} {f : Str} (pin : (a, oe) ∈ X.pn) (is : Zc cls d oe) (flds : ∃ vs, oe.data = .fields vs) (he : PE X e te)
    (plain : attributeBase e f X.env (eval e X.env) = eval e X.env := by rfl) : PE X (.Attribute e f pos) (tXfA X.K a cls d f te) where
  run pins s σ H Q inv ask := by
    apply attr_of plain
    apply wpAny_mono (he.run pins s σ H _ inv ask) _ (fun _ _ raised => raised)
    rintro u s1 ⟨x, H1, inv1, rel, rfl, C, dd, fs, v, rfl, T, none_, rfl, dict, field, goal⟩
    obtain rfl : u = Value.ref a := rel
    obtain ⟨there, _⟩ := inv1.pin (a, oe) (List.mem_append_left _ pin)
    obtain ⟨vs, dat⟩ := flds
    obtain ⟨m, names, rels⟩ : ObjOk X.prog X.w H1 s1.heap dd (.xd fs) := inv1.hok dd _ dict
    obtain ⟨od, at_d, look⟩ := lookIn_ns names
    have got := rels f
    rw [field] at got
    obtain ⟨w, hw, rw_⟩ := RelO.some_of got
    have inst : PySem.W.InstAt s1.heap a oe C (some od) := by
      refine ⟨there, is.1, ?_, ?_⟩
      · unfold PySem.W.notCls
        rw [dat] <;> rfl
      · rw [is.2]
        exact at_d
    have own := PySem.W.findObj_own T.hdC none_ rfl (by rw [look, hw])
    exact HandSPX.exc_get inv1.kIn inst T.ga T.gg T.exC own (handed_of rw_) ⟨v, H1, inv1.tok _, rw_, goal⟩
/-- a def is run while the exception at a is handled; nothing that is raised leaves it -/
theorem run_handled {P : Program} {w : World} {K : PySem.W.Frag} {mg : Str → Option Value} {base : Heap} {k : Nat} {f : Addr} {name qual : Str} {params : Arguments} {body : List Stmt} {scope : Scope} {dV kV doc pm cdv ct oc : Value} {an od : Option Addr} {osl : Array (Option Value)} {N ps : List Str}
    (written : K.lookup f = some ⟨oc, od, .func (PySem.W.fnOf name qual params body scope dV kV doc pm an cdv ct), osl⟩) (code : PySem.W.codeIn K cdv qual = true) (S : FnScope N ps scope) {A : Around} {outer : List Env} {s : Shared} {H : Hp} {args : Args} {us : List Value} {vs : List V} {Q : VK} {E : XK} {p : Addr × Obj}
    (room : RoomH (k + 1) A) (pin : PinOk outer H s p) (around : Env0 P w K mg base A outer s H) (binds : BindsTo s (PySem.W.fnOf name qual params body scope dV kV doc pm an cdv ct) args (ps.zip us)) (rel : Vals vs us) (len : vs.length = ps.length)
    (walk : RoomH k (A.deeper (envOfC qual scope s.heap.objs.size f cdv)) → ∃ t, PSs (cxH CX0 P w K mg base N qual scope f cdv A outer s H E p) body t ∧ t { nx := fun _ H' => Q .non H', rt := Q } (L2.start N vs) H) :
    codeAny (model P w) A (.call (.ref f) args) (CR CX0 outer P w H s Q E) s := by
  have stays : ∀ b o, base.get? b = some o → s.heap.get? b = some o := fun b o e => (around.bs b o e).1
  have kin : K.In s.heap := around.mod.kin.keeps stays
  apply codeAny_call_function room.depth (kin _ _ written) rfl S.co S.gen rfl (PySem.W.codeRec_of kin code)
  apply binds
  apply wpAny_newFunctionEnv_cells S.kind
  · rintro ⟨y, v⟩ hy
    rcases S.par y (List.of_mem_zip hy).1 with own | cell
    · exact Or.inl own
    · exact Or.inr ⟨cell, PySem.W.cellsFrom_some _ _ _ (.inl cell)⟩
  · rintro env rfl s1 entered
    refine ⟨(around.mod.nolimit.keeps stays).keeps entered.toInCall.keep, codeAny_func ?_⟩
    obtain ⟨t, does, goal⟩ := walk (room.deeper _)
    have inv := inv_startH (CX := CX0) (E := E) S pin around len rel entered
    apply wpAny_mono (does.run [] s1 (L2.start N vs) H _ inv goal) _ (fun _ _ raised => raised)
    intro flow s2 told
    match flow, told with
    | .ret u, ⟨v, σ2, H2, inv2, rv, q⟩ => exact ⟨v, H2, inv2.os, inv2.bare, inv2.base, inv2.hok, rv, q⟩
    | .next, ⟨σ2, H2, inv2, q⟩ => exact ⟨V.non, H2, inv2.os, inv2.bare, inv2.base, inv2.hok, rfl, q⟩
    | .brk, ⟨_, _, _, q⟩ => exact q.elim
    | .cont, ⟨_, _, _, q⟩ => exact q.elim
/-- g(e) in the suite of a clause, e the exception itself -/
theorem pe_given {X : Cx} {a : Addr} {oe : Obj} {pn : List (Addr × Obj)} {k : Nat} {f : Addr} {x y : Str} {params : Arguments} {body : List Stmt} {scope : Scope} {kV doc pm cdv ct oc : Value} {an od : Option Addr} {osl : Array (Option Value)} {N : List Str} {e : Expr} {te : TE} {q pos : Pos} {sp : Hp → VK → Prop}
    (written : X.K.lookup f = some ⟨oc, od, .func (PySem.W.fnOf x x params body scope .none kV doc pm an cdv ct), osl⟩) (code : PySem.W.codeIn X.K cdv x = true) (S : FnScope N [y] scope) (binds : L2.Binds X.K (PySem.W.fnOf x x params body scope .none kV doc pm an cdv ct) [y] [])
    (glob : Gl (X.suite a ((a, oe) :: pn)) x) (holds : X.mg x = some (.ref f)) (kept : PySem.W.keepIn X.K (.ref f) = true) (room : RoomH (k + 1) (X.suite a ((a, oe) :: pn)).A)
    (walk : ∀ (outer : List Env) (s : Shared) (H : Hp) (Q : VK), RoomH k ((X.suite a ((a, oe) :: pn)).A.deeper (envOfC x scope s.heap.objs.size f cdv)) → sp H Q → ∃ t, PSs (cxH CX0 X.prog X.w X.K X.mg X.base N x scope f cdv (X.suite a ((a, oe) :: pn)).A outer s H (fun _ _ _ => False) (a, oe)) body t ∧ t { nx := fun _ H' => Q .non H', rt := Q } (L2.start N [.ref a]) H)
    (he : PE (X.suite a ((a, oe) :: pn)) e te) (plainName : (x == ("__debug__" : Str)) = false := by decide) (first : starEach [e] X.env = [(false, eval e X.env)] := by rfl) :
    PE (X.suite a ((a, oe) :: pn)) (.Call (.Name x q) [e] [] pos) (fun σ H Q => te σ H fun v H1 => [v] = [V.ref a] ∧ sp H1 Q) where
  run pins s σ H Q inv ask := by
    apply wpAny_Call_Name_kw
    apply ld_glob inv glob holds _ plainName
    apply PySem.W.callWith_K (h₀ := X.base) inv.ok.mod.kin kept _ first (by rfl)
    have many : PA (X.suite a ((a, oe) :: pn)) [e] (tCons te tNil) := pa_cons he pa_nil (hs := first)
    apply wpAny_mono (many.run pos pins s σ H (fun vs H1 => vs = [.ref a] ∧ sp H1 Q) inv ask) _ (fun _ _ raised => raised)
    rintro us s1 ⟨vs, H1, inv1, rel, rfl, goal⟩
    refine ⟨inv1.kIn, ?_⟩
    obtain ⟨there, free, offL, offF, nocell⟩ := inv1.pin (a, oe) (List.mem_append_left _ List.mem_cons_self)
    have pin : PinOk (X.suite a ((a, oe) :: pn)).stack H1 s1 (a, oe) := by
      refine ⟨there, free, fun hm => ?_, nocell⟩
      rcases List.mem_cons.mp (inv1.stkSub a hm) with z | z
      · exact offL z
      · exact offF z
    have len : us.length = 1 := rel.length.symm
    have to := binds s1 us inv1.kIn (by rw [List.append_nil]; exact len)
    rw [List.append_nil] at to
    apply wpAny_call
    apply codeAny_mono (run_handled (k := k) (E := fun _ _ _ => False) written code S room pin inv1.env0 to rel rfl (fun room2 => walk _ _ _ Q room2 goal))
    intro r s2 told
    match r, told with
    | .error _, told => exact (show False from told).elim
    | .ok (.ret u), told => exact inv1.after told
    | .ok .next, told => exact (show False from told).elim
    | .ok .brk, told => exact (show False from told).elim
    | .ok .cont, told => exact (show False from told).elim
/-! ### which field goes with which code -/
def nodeCodes : List Str := ["invalidnode", "invalidmark", "nodetaken", "notbare", "invaliddrawing", "unknownnode"]
def nameCodes : List Str := ["invalidname", "invalidedge", "edgetaken", "invalidwebname", "nametaken", "unknownedge", "unknownweb"]
def indexCodes : List Str := ["invalidstep", "invalidcommand"]
def limitCodes : List Str := ["limitexceeded", "invalidlimit"]
def attrOf (c : Str) : Option Str :=
  if c ∈ nodeCodes then some "node" else if c ∈ nameCodes then some "name" else if c ∈ indexCodes then some "index" else if c ∈ limitCodes then some "limit"
  else if c = "invalidword" then some "position" else if c = "invalidstring" then some "value" else if c = "invaliddocument" then some "line" else none
def FieldIs (K : PySem.W.Frag) (C : Addr) (fs : List (Str × V)) (v : V) : Option Str → Prop
  | some f => PySem.W.findIn K (.ref C) f = some none ∧ fs.lookup f = some v
  | none => v = .non
theorem in_strs (c : Str) (zs : List Str) : inV (.str c) (zs.map V.str) = decide (c ∈ zs) := by
  unfold inV
  rw [List.any_map]
  induction zs with
  | nil => rfl
  | cons z r ih =>
    rw [List.any_cons, ih]
    by_cases h : z = c
    · subst h
      simp [eqV]
    · have h2 : ¬ c = z := fun e => h e.symm
      simp [eqV, h, h2]
/-- what is known of an exception in hand -/
structure ExcIs (K : PySem.W.Frag) (cls : Value) (d : Option Addr) (H : Hp) (c : Str) (v : V) : Prop where
  ex : ∃ (C dd : Addr) (fs : List (Str × V)), cls = .ref C ∧ XfC K C ∧ PySem.W.findIn K (.ref C) "code" = some none ∧ d = some dd ∧ H dd = some (.xd fs) ∧ fs.lookup ("code" : Str) = some (.str c) ∧ FieldIs K C fs v (attrOf c)
theorem ExcIs.same {K : PySem.W.Frag} {cls : Value} {d : Option Addr} {H H' : Hp} {c : Str} {v : V} (e : ExcIs K cls d H c v) (s : Same H H') : ExcIs K cls d H' c v := by
  obtain ⟨C, dd, fs, h1, h2, h3, h4, h5, h6⟩ := e.ex
  exact ⟨C, dd, fs, h1, h2, h3, h4, s _ _ h5, h6⟩
def spFieldE (K : PySem.W.Frag) (cls : Value) (d : Option Addr) : Hp → VK → Prop := fun H Q => ∃ (c : Str) (v : V), ExcIs K cls d H c v ∧ ∀ H', Same H H' → Q v H'
end Tm

namespace T25
open PySem PySem.Spec PyProof.Rows L2 Tm
open L2H
abbrev sField : Stmt := topS 29
theorem scField : FnScope ["_law_e"] ["_law_e"] (defScope sField) := ⟨rfl, rfl, rfl, by decide +kernel, rfl, by decide +kernel, by decide +kernel⟩
section
variable {P : Program} {w : World} {K : PySem.W.Frag} {mg : Str → Option Value} {base : Heap}
theorem walk_field {f : Addr} {cdv : Value} {A : Around} {outer : List Env} {s : Shared} {H : Hp} {Q : VK} {a : Addr} {oe : Obj} {cls : Value} {d : Option Addr} (is : Zc cls d oe) (flds : ∃ vs, oe.data = .fields vs) (told : spFieldE K cls d H Q) :
    ∃ t, PSs (cxH CX0 P w K mg base ["_law_e"] "_law_field" (defScope sField) f cdv A outer s H (fun _ _ _ => False) (a, oe)) (defBody sField) t ∧ t { nx := fun _ H' => Q .non H', rt := Q } (L2.start ["_law_e"] [.ref a]) H := by
  obtain ⟨c, v, ex, q⟩ := told
  have pin : (a, oe) ∈ (cxH CX0 P w K mg base ["_law_e"] "_law_field" (defScope sField) f cdv A outer s H (fun _ _ _ => False) (a, oe)).pn := List.mem_cons_self
  refine ⟨_, pss_cons (ps_if (pt_cmpR op_in_seq (pe_pinned pin is flds (pv 0)) (pe_lst (pa_cons pe_str (pa_cons pe_str (pa_cons pe_str (pa_cons pe_str (pa_cons pe_str (pa_cons pe_str pa_nil))))))) (by rfl)) (pss_one (ps_ret (pe_pinned pin is flds (pv 0)))) pss_nil)
    (pss_cons (ps_if (pt_cmpR op_in_seq (pe_pinned pin is flds (pv 0)) (pe_lst (pa_cons pe_str (pa_cons pe_str (pa_cons pe_str (pa_cons pe_str (pa_cons pe_str (pa_cons pe_str (pa_cons pe_str pa_nil)))))))) (by rfl)) (pss_one (ps_ret (pe_pinned pin is flds (pv 0)))) pss_nil)
    (pss_cons (ps_if (pt_cmpR op_in_seq (pe_pinned pin is flds (pv 0)) (pe_lst (pa_cons pe_str (pa_cons pe_str pa_nil))) (by rfl)) (pss_one (ps_ret (pe_pinned pin is flds (pv 0)))) pss_nil)
    (pss_cons (ps_if (pt_cmpR op_in_seq (pe_pinned pin is flds (pv 0)) (pe_lst (pa_cons pe_str (pa_cons pe_str pa_nil))) (by rfl)) (pss_one (ps_ret (pe_pinned pin is flds (pv 0)))) pss_nil)
    (pss_cons (ps_if (pt_cmpR op_eq (pe_pinned pin is flds (pv 0)) pe_str (nomark _)) (pss_one (ps_ret (pe_pinned pin is flds (pv 0)))) pss_nil)
    (pss_cons (ps_if (pt_cmpR op_eq (pe_pinned pin is flds (pv 0)) pe_str (nomark _)) (pss_one (ps_ret (pe_pinned pin is flds (pv 0)))) pss_nil)
    (pss_one (ps_ret (pe_ifExp (pt_cmpR op_eq (pe_pinned pin is flds (pv 0)) pe_str (nomark _)) (pe_pinned pin is flds (pv 0)) pe_non)))))))), ?_⟩
  obtain ⟨C, dd, fs, ec, T, noC, ed, hdd, hc, hf⟩ := ex.ex
  -- one test of the code against a list of texts
  have inL : ∀ (c : Str) (zs : List Str), (if false = true then !inV (.str c) (zs.map V.str) else inV (.str c) (zs.map V.str)) = decide (c ∈ zs) := fun c zs => by rw [in_strs]; rfl
  unfold attrOf at hf
  have s0 : Same H H := Same.refl H
  refine ⟨_, rfl, rfl, C, dd, fs, _, ec, T, noC, ed, s0 _ _ hdd, hc, (by show 6 ≤ sizeLine; decide), fun l1 n1 => ⟨l1, _, rfl, .inl (SqL.of upd_same), rfl, rfl, _, rfl, ?_⟩⟩
  have s1 := s0.trans (same_upd (o := .lst (nodeCodes.map V.str)) n1)
  by_cases h1 : c ∈ nodeCodes
  · rw [if_pos h1] at hf
    refine ifT ((inL c nodeCodes).trans (decide_eq_true h1)) ?_
    exact ⟨_, rfl, rfl, C, dd, fs, _, ec, T, hf.1, ed, s1 _ _ hdd, hf.2, q _ s1⟩
  rw [if_neg h1] at hf
  refine ifF ((inL c nodeCodes).trans (decide_eq_false h1)) ?_
  refine ⟨_, rfl, rfl, C, dd, fs, _, ec, T, noC, ed, s1 _ _ hdd, hc, (by show 7 ≤ sizeLine; decide), fun l2 n2 => ⟨l2, _, rfl, .inl (SqL.of upd_same), rfl, rfl, _, rfl, ?_⟩⟩
  have s2 := s1.trans (same_upd (o := .lst (nameCodes.map V.str)) n2)
  by_cases h2 : c ∈ nameCodes
  · rw [if_pos h2] at hf
    refine ifT ((inL c nameCodes).trans (decide_eq_true h2)) ?_
    exact ⟨_, rfl, rfl, C, dd, fs, _, ec, T, hf.1, ed, s2 _ _ hdd, hf.2, q _ s2⟩
  rw [if_neg h2] at hf
  refine ifF ((inL c nameCodes).trans (decide_eq_false h2)) ?_
  refine ⟨_, rfl, rfl, C, dd, fs, _, ec, T, noC, ed, s2 _ _ hdd, hc, (by show 2 ≤ sizeLine; decide), fun l3 n3 => ⟨l3, _, rfl, .inl (SqL.of upd_same), rfl, rfl, _, rfl, ?_⟩⟩
  have s3 := s2.trans (same_upd (o := .lst (indexCodes.map V.str)) n3)
  by_cases h3 : c ∈ indexCodes
  · rw [if_pos h3] at hf
    refine ifT ((inL c indexCodes).trans (decide_eq_true h3)) ?_
    exact ⟨_, rfl, rfl, C, dd, fs, _, ec, T, hf.1, ed, s3 _ _ hdd, hf.2, q _ s3⟩
  rw [if_neg h3] at hf
  refine ifF ((inL c indexCodes).trans (decide_eq_false h3)) ?_
  refine ⟨_, rfl, rfl, C, dd, fs, _, ec, T, noC, ed, s3 _ _ hdd, hc, (by show 2 ≤ sizeLine; decide), fun l4 n4 => ⟨l4, _, rfl, .inl (SqL.of upd_same), rfl, rfl, _, rfl, ?_⟩⟩
  have s4 := s3.trans (same_upd (o := .lst (limitCodes.map V.str)) n4)
  by_cases h4 : c ∈ limitCodes
  · rw [if_pos h4] at hf
    refine ifT ((inL c limitCodes).trans (decide_eq_true h4)) ?_
    exact ⟨_, rfl, rfl, C, dd, fs, _, ec, T, hf.1, ed, s4 _ _ hdd, hf.2, q _ s4⟩
  rw [if_neg h4] at hf
  refine ifF ((inL c limitCodes).trans (decide_eq_false h4)) ?_
  refine ⟨_, rfl, rfl, C, dd, fs, _, ec, T, noC, ed, s4 _ _ hdd, hc, rfl, _, rfl, ?_⟩
  by_cases h5 : c = "invalidword"
  · rw [if_pos h5] at hf
    refine ifT (decide_eq_true (by rw [h5])) ?_
    exact ⟨_, rfl, rfl, C, dd, fs, _, ec, T, hf.1, ed, s4 _ _ hdd, hf.2, q _ s4⟩
  rw [if_neg h5] at hf
  refine ifF (decide_eq_false (fun e => h5 (V.str.inj e))) ?_
  refine ⟨_, rfl, rfl, C, dd, fs, _, ec, T, noC, ed, s4 _ _ hdd, hc, rfl, _, rfl, ?_⟩
  by_cases h6 : c = "invalidstring"
  · rw [if_pos h6] at hf
    refine ifT (decide_eq_true (by rw [h6])) ?_
    exact ⟨_, rfl, rfl, C, dd, fs, _, ec, T, hf.1, ed, s4 _ _ hdd, hf.2, q _ s4⟩
  rw [if_neg h6] at hf
  refine ifF (decide_eq_false (fun e => h6 (V.str.inj e))) ?_
  refine ⟨_, rfl, rfl, C, dd, fs, _, ec, T, noC, ed, s4 _ _ hdd, hc, rfl, _, rfl, ?_⟩
  by_cases h7 : c = "invaliddocument"
  · rw [if_pos h7] at hf
    refine ifT (decide_eq_true (by rw [h7])) ?_
    exact ⟨_, rfl, rfl, C, dd, fs, _, ec, T, hf.1, ed, s4 _ _ hdd, hf.2, q _ s4⟩
  rw [if_neg h7] at hf
  refine ifF (decide_eq_false (fun e => h7 (V.str.inj e))) ?_
  have hv : v = .non := hf
  rw [← hv]
  exact q _ s4
end


end T25

namespace T25
open PySem PySem.Spec PyProof.Rows L2 Tm
open LamX L2H
abbrev sTried : Stmt := topS 30
theorem scTried : FnScope ["_law_ask", "_law_e"] ["_law_ask"] (defScope sTried) := ⟨rfl, rfl, rfl, by decide +kernel, rfl, by decide +kernel, by decide +kernel⟩
/-- what is asked of an error that leaves the lambda: it is one of the two kinds, and its code and field are known -/
def wTried (K : PySem.W.Frag) (CT CM : Addr) (Q : VK) : XK := fun cls d H => ∃ b, PySem.W.exmOne K cls (.ref CT) = some b ∧ (b = false → PySem.W.exmOne K cls (.ref CM) = some true) ∧
  ∃ (c : Str) (v : V), ExcIs K cls d H c v ∧ ∀ H' t, Same H H' → H' t = none → Q (.ref t) (upd H' t (.tup [.str c, v]))
def TTried (K : PySem.W.Frag) (CT CM : Addr) : (XK → Hp → VK → Prop) → Hp → VK → Prop := fun tl H Q => tl (wTried K CT CM Q) H (fun v H' => [V.str (Str.ofString ""), v].length ≤ sizeLine ∧ ∀ t, H' t = none → Q (.ref t) (upd H' t (.tup [.str (Str.ofString ""), v])))
theorem takes_len {X : Cx} {W : WX} (tk : Takes X W) : Takes X (fun cls d σ H => σ.length = X.N.length → W cls d σ H) := by
  rintro u s ⟨a, B, s0, pins, σ, H, cls, d, e, inv, ground, slots, sky, new, os, bare, wish⟩
  exact tk u s ⟨a, B, s0, pins, σ, H, cls, d, e, inv, ground, slots, sky, new, os, bare, wish inv.len⟩
section
variable {X : Cx}
theorem tried_gives {g fF CT CM : Addr} {cdg : Value} {q : Str} {kV doc pm cdv ct oc : Value} {an od : Option Addr} {osl : Array (Option Value)} {k : Nat}
    (mT : X.mg "ThreadError" = some (.ref CT)) (mM : X.mg "Missing" = some (.ref CM))
    (written : X.K.lookup fF = some ⟨oc, od, .func (PySem.W.fnOf "_law_field" "_law_field" (defArgs sField) (defBody sField) (defScope sField) .none kV doc pm an cdv ct), osl⟩) (code : PySem.W.codeIn X.K cdv "_law_field" = true)
    (binds : L2.Binds X.K (PySem.W.fnOf "_law_field" "_law_field" (defArgs sField) (defBody sField) (defScope sField) .none kV doc pm an cdv ct) ["_law_e"] []) (holds : X.mg "_law_field" = some (.ref fF)) (kept : PySem.W.keepIn X.K (.ref fF) = true) (room : Room (k + 3) X.A) :
    GivesTo X ["_law_ask", "_law_e"] "_law_tried" (defScope sTried) g cdg (defBody sTried) "_law_ask" q (TTried X.K CT CM) := by
  intro f c' s H Q tl act hc ask
  have suite : ∀ (a : Addr) (oe : Obj) (cls : Value) (d : Option Addr) (pn : List (Addr × Obj)) (p1 p2 p3 p4 p5 p6 p7 : Pos) (k0 : Nat), Zc cls d oe → (∃ vs, oe.data = .fields vs) →
      PSs ((cxOf C8.CX0 X.prog X.w X.K X.mg X.base ["_law_ask", "_law_e"] "_law_tried" (defScope sTried) g cdg X.A X.stack s H C8.E0).nox.suite a ((a, oe) :: pn))
        [.Return (some (.Tuple [.Attribute (.Name "_law_e" p1) "code" p2, .Call (.Name "_law_field" p3) [.Name "_law_e" p4] [] p5] k0 p6)) p7]
        (tRet (tTup (tCons (tXfA X.K a cls d "code" (tVar 1)) (tCons (fun σ H Q => tVar 1 σ H fun v H1 => [v] = [V.ref a] ∧ spFieldE X.K cls d H1 Q) tNil)))) := by
    intro a oe cls d pn p1 p2 p3 p4 p5 p6 p7 k0 is flds
    refine pss_one (ps_ret (pe_tup (pa_cons (pe_pinned List.mem_cons_self is flds (pv 1)) (pa_cons (pe_given (k := 0) written code scField binds rfl holds kept ?_ (fun outer s2 H2 Q2 _ told => walk_field is flds told) (pv 1)) pa_nil))))
    have r := (roomH_of (room.deeper (envOfC "_law_tried" (defScope sTried) s.heap.objs.size g cdg))).mono (show 1 ≤ k + 2 by omega)
    exact ⟨r.dp, r.un⟩
  refine ⟨_, pss_one (ps_try_named (X := (cxOf C8.CX0 X.prog X.w X.K X.mg X.base ["_law_ask", "_law_e"] "_law_tried" (defScope sTried) g cdg X.A X.stack s H C8.E0).nox) (i := 1) (n := "_law_e")
      (tb := fun W D σ H => ∃ Ech : XK, (∀ cls d σ' H', Ech cls d H' → σ'.length = 2 → W cls d σ' H') ∧ σ[0]? = some (some (.ref f)) ∧ H c' = some (CodeO c' q) ∧ tl Ech H (fun v H' => [V.str (Str.ofString ""), v].length ≤ sizeLine ∧ ∀ t, H' t = none → D.rt (.ref t) (upd H' t (.tup [.str (Str.ofString ""), v]))))
      rfl rfl scTried.nd rfl rfl LamX.takes0 (fun W pn xe tk _ => ?body)
      (.cons ⟨rfl, by decide, .inl mT⟩ (fun a oe cls d pn is fl => suite a oe cls d pn _ _ _ _ _ _ _ _ is fl) (.cons ⟨rfl, by decide, .inl mM⟩ (fun a oe cls d pn is fl => suite a oe cls d pn _ _ _ _ _ _ _ _ is fl) .nil))), ?reads⟩
  case body =>
    refine ⟨fun pins s1 σ1 H1 D inv1 ask1 => ?_⟩
    obtain ⟨Ech, wish, slot, code1, rest⟩ := ask1
    have calls := fun p1 p2 => act (fun cls d σ H => σ.length = 2 → W cls d σ H) pn xe Ech p1 p2 (takes_len tk) (fun cls d σ' H' e => wish cls d σ' H' e)
    exact (pss_one (ps_ret (pe_tup (pa_cons pe_str (pa_cons (calls _ _) pa_nil))))).run pins s1 σ1 H1 D inv1 ⟨slot, code1, rest⟩
  case reads =>
    refine ⟨wTried X.K CT CM Q, ?_, rfl, hc, ask⟩
    rintro cls d σ' H' ⟨b, kind, other, c, v, ex, out⟩ len
    have told : ∀ a, H' a = none → tRet (tTup (tCons (tXfA X.K a cls d "code" (tVar 1)) (tCons (fun σ H Q => tVar 1 σ H fun v H1 => [v] = [V.ref a] ∧ spFieldE X.K cls d H1 Q) tNil))) (nameless 1 { nx := fun _ H' => Q .non H', rt := Q }) (σ'.set 1 (some (.ref a))) H' := by
      intro a new
      have at1 : (σ'.set 1 (some (.ref a)))[1]? = some (some (V.ref a)) := by rw [List.getElem?_set_self (by omega)]
      obtain ⟨C, dd, fs, h1, h2, h3, h4, h5, h6, h7⟩ := ex.ex
      refine ⟨_, at1, rfl, C, dd, fs, _, h1, h2, h3, h4, h5, h6, _, at1, rfl, c, v, ex, fun H2 same => ⟨(by show 2 ≤ sizeLine; decide), fun t nt => out H2 t same nt⟩⟩
    refine ⟨b, kind, fun _ a new => told a new, fun hb => ?_⟩
    exact ⟨true, other hb, fun _ a new => told a new, fun z => Bool.noConfusion z⟩
end


end T25

/-! errors with a code and one field: how they are made -/
namespace Tm
open PySem PySem.Spec PyProof.Rows L2
/-- __init__(self, v): self.code = c; self.fld = v -/
def spErr (C : Addr) (c fld : Str) : Sp := fun vs H Q _ => ∃ (a : Addr) (v : V), vs = [.ref a, v] ∧ H a = some (exo a C none) ∧
  ∀ dx, H dx = none → dx ≠ a → Q .non (upd (upd (upd H dx (exd dx [("code", .str c)])) a (exo a C (some dx))) dx (exd dx [(fld, v), ("code", .str c)]))
/-- what stands behind the making of such an error -/
theorem made_err {C : Addr} {c fld : Str} {ta : TA} {σ : L2.St} {H : Hp} {Q : XK}
    (ask : ta σ H fun vs H1 => ∃ v, vs = [v] ∧ ∀ H3 d, Same H1 H3 → H1 d = none → H3 d = some (.xd [(fld, v), ("code", .str c)]) → Q (.ref C) (some d) H3)
    (mono : ∀ (R S : List V → Hp → Prop), (∀ vs H, R vs H → S vs H) → ta σ H R → ta σ H S) : tMkO C (spErr C c fld) [] ta σ H Q := by
  refine mono _ _ ?_ ask
  rintro vs H1 ⟨v, rfl, out⟩
  refine ⟨by show 1 ≤ 1000; decide, fun a na => ⟨a, v, rfl, upd_same, fun dx ndx nda => ⟨rfl, dx, _, ?_, upd_same, ?_, ?_⟩⟩⟩
  · rw [upd_ne (fun e => nda e.symm), upd_same]
  · rw [upd_ne nda] at ndx
    exact ndx
  · rw [upd_ne nda] at ndx
    refine out _ dx ?_ ndx upd_same
    intro b o hb
    have b1 : b ≠ dx := ne_of_none hb ndx
    have b2 : b ≠ a := ne_of_none hb na
    rw [upd_ne b1, del_ne b2, upd_ne b1, upd_ne b2, upd_ne b1, upd_ne b2]
    exact hb
end Tm

namespace T25
open PySem PySem.Spec PyProof.Rows L2 Tm
abbrev sIW : Stmt := inClass (topS 2) 0
theorem scIW : FnScope ["self", "position"] ["self", "position"] (defScope sIW) := ⟨rfl, rfl, rfl, by decide +kernel, rfl, by decide +kernel, by decide +kernel⟩
section
variable {P : Program} {w : World} {K : PySem.W.Frag} {mg : Str → Option Value} {base : Heap}
theorem ok_iw {f C : Addr} {fd : FuncData} (F : Fun K "__init__" "InvalidWord.__init__" sIW f fd) (T : OexC K C) (nc : PySem.W.findIn K (.ref C) "code" = some none) (np : PySem.W.findIn K (.ref C) "position" = some none) :
    FnOk P w K mg base CX0 1 f fd ["self", "position"] (spErr C "invalidword" "position") := by
  refine F.ok scIW (fun vs H Q E h => ?_) (fun cdv A outer s H vs Q E hr h => ?_)
  · obtain ⟨a, v, rfl, _⟩ := h
    rfl
  · obtain ⟨a, v, rfl, ha, q⟩ := h
    refine ⟨_, pss_cons (ps_ost (pv 0) pe_str) (pss_one (ps_ost (pv 0) (pv 1))), ?_⟩
    refine ⟨_, rfl, a, C, rfl, T, nc, .inl ⟨ha, fun dx n1 n2 => ?_⟩⟩
    exact ⟨_, rfl, _, rfl, a, C, rfl, T, np, .inr ⟨dx, _, upd_same, by rw [upd_ne n2]; exact upd_same, by show 1 ≤ 900; decide, q dx n1 n2⟩⟩
end


end T25

/-! for i, x in enumerate(t), t a tuple -/
namespace Tm
open PySem PySem.Spec PyProof.Rows L2
/-- the cell of an enumerate that has just been made over an iterator -/
def freshEnum (it : Addr) : Obj := { cls := .type "enumerate", data := .fields #[.none, .bool false, .ref it, rawInt 0, .none, .none] }
set_option maxHeartbeats 2000000 in
theorem enum_new {v : Value} {o : Obj} {At : Heap → Prop} (begin_ : Begins v o At) :
    Meets (Builtin.«enumerate.__new__» ⟨[.type "enumerate", v], []⟩) (fun _ R s => At s.heap ∧ R (.ok (.ret (.ref (s.heap.push o).objs.size))) { s with heap := (s.heap.push o).push (freshEnum s.heap.objs.size) }) := by
  refine Meets.of_wp fun prog w A R s ⟨stands, goal⟩ => ?_
  cases s with
  | mk heap gens drawn toks os =>
    have whole := sub_enumerate
    have iterates : ∀ {B : Around} {E : Value → Shared → Prop} {Q : Value → Shared → Prop}, Q (.ref heap.objs.size) ⟨heap.push o, gens, drawn, toks, os⟩ → wpAny (model prog w) B (pyIter v) Q E ⟨heap, gens, drawn, toks, os⟩ := by
      intro B E Q q
      exact begin_.iter prog w B E ⟨heap, gens, drawn, toks, os⟩ Q stands q
    wp_walk using iterates
    apply wpAny_stack_any
    intro frames
    apply wpAny_pure
    rcases frames with _ | ⟨top, below⟩
    all_goals
      try split
      all_goals
        try (rename_i kind _ _ _ _ _; cases (kind == Value.type "enumerate"))
        all_goals
          wp_walk using iterates
          exact ⟨_, rfl, goal⟩
/-- enumerate(t) begins: its iterator, and itself -/
theorem enum_made {prog : Program} {w : World} {A : Around} {E : Value → Shared → Prop} {s : Shared} {v : Value} {o : Obj} {At : Heap → Prop} {Q : Value → Shared → Prop} (begin_ : Begins v o At) (stands : At s.heap)
    (hand : ∀ h', IsEnum h' (s.heap.objs.size + 1) s.heap.objs.size 0 .none → h'.get? s.heap.objs.size = some o → (∀ b u, s.heap.get? b = some u → h'.get? b = some u) → Q (.ref (s.heap.objs.size + 1)) { s with heap := h' }) :
    wpAny (model prog w) A (call (.type "enumerate") [v]) Q E s := by
  have next : (s.heap.push o).objs.size = s.heap.objs.size + 1 := Heap.size_push ..
  apply callType_new F.called_enumerate (by decide) (F.typeCall_enumerate_1 _) (F.newCall_enumerate_1 _) (fun obj => F.args_object_init_2 obj _) F.entry_enumerate_new (enum_new begin_)
  refine ⟨stands, ?_⟩
  have there : ((s.heap.push o).push (freshEnum s.heap.objs.size)).get? (s.heap.push o).objs.size = some (freshEnum s.heap.objs.size) := Heap.get?_push_size _ rfl
  have first : ((s.heap.push o).push (freshEnum s.heap.objs.size)).get? s.heap.objs.size = some o := Heap.get?_push_of_some _ (Heap.get?_push_size _ begin_.free)
  have more := hand ((s.heap.push o).push (freshEnum s.heap.objs.size)) (by rw [← next]; exact there) first (fun b u e => Heap.get?_push_of_some _ (Heap.get?_push_of_some _ e))
  rw [← next] at more
  exact ⟨⟨_, there, rfl⟩, more⟩
/-- what enumerate of a tuple gives out -/
def IteT (K : PySem.W.Frag) (t : Addr) : It :=
  ⟨fun i H => ∃ xs, SqT K H t xs ∧ i < xs.length, fun i H x H' => ∃ T y, x = .ref T ∧ H T = none ∧ H' = upd H T (.tup [.int (i : Nat), y]) ∧ ∀ xs, SqT K H t xs → xs[i]? = some y, fun i H => ∃ xs, SqT K H t xs ∧ xs.length = i⟩
def enumAt (N t : Addr) (i : Nat) (h : Heap) : Prop := (∃ old, IsEnum h (N + 1) N ((0 : Int) + (i : Int)) old) ∧ h.IsTupleIter N t i
theorem enum_goes {prog : Program} {w : World} {A : Around} (hh : A.handled = none) (elts : List Expr) (k : Nat) (pos : Pos) (N t : Addr) (nt : t ≠ N) (nt1 : t ≠ N + 1) (items : Array Value) :
    GoesN prog w A (.Tuple elts k pos) (N + 1) [N + 1, N, t] [N + 1, N] items.size (fun i h₀ v h => ∃ T tok x, v = .ref T ∧ h₀.objs.size ≤ T ∧ items[i]? = some x ∧ h.IsTuple T #[.int ((0 : Int) + (i : Int)) tok, x])
      (fun i h => (∃ old, IsEnum h (N + 1) N ((0 : Int) + (i : Int)) old) ∧ h.IsTupleIter N t i ∧ h.IsTuple t items) :=
  GoesN.enumFrom (prog := prog) (w := w) (A := A) (elts := elts) (x1 := k) (pos := pos) 0 (Draws.tuple (A := A.in1) hh N t nt items) (N + 1) (Nat.succ_ne_self N) (by simp only [List.mem_cons, List.not_mem_nil, or_false, not_or]; exact ⟨Nat.succ_ne_self N, fun e => nt1 e.symm⟩) (by simp)
theorem enum_obj {N t : Addr} {i : Nat} {h : Heap} (st : enumAt N t i h) : ∀ q ∈ [N + 1, N], ∃ o, h.get? q = some o ∧ ∀ v, o.data ≠ .cell v := by
  obtain ⟨⟨old, e⟩, ⟨o, g, c, d⟩⟩ := st
  intro q hq
  simp only [List.mem_cons, List.not_mem_nil, or_false] at hq
  rcases hq with rfl | rfl
  · exact ⟨_, e, fun v z => by cases z⟩
  · exact ⟨o, g, fun v z => by rw [d] at z; cases z⟩
theorem enum_turn (P : Program) (w : World) (K : PySem.W.Frag) (elts : List Expr) (k : Nat) (pos : Pos) (N t : Addr) (nt : t ≠ N) (nt1 : t ≠ N + 1) : Turn P w K (.Tuple elts k pos) (IteT K t) [N + 1, N] (N + 1) (enumAt N t) where
  mem := List.mem_cons_self ..
  obj := fun i h st => enum_obj st
  keep := by
    rintro i h h' ⟨⟨old, e⟩, it⟩ same
    exact ⟨⟨old, same _ (by simp) _ e⟩, it.at fun o z => same _ (by simp) o z⟩
  item := by
    intro X ep ew eK calm i pins s σ H E inv own st go
    subst ep ew eK
    obtain ⟨xs, sq, lt⟩ := go
    obtain ⟨its, rel, tup, room⟩ := inv.tuple sq
    have G := enum_goes (prog := X.prog) (w := X.w) (inv.ok.hd calm) elts k pos N t nt nt1 its.toArray
    have size : i < its.toArray.size := by rw [List.size_toArray, ← rel.length]; exact lt
    refine G.goes i s (fun v s2 => ∃ x H', Inv X pins σ H' s2 ∧ RelV x v ∧ (IteT X.K t).yld i H x H' ∧ enumAt N t (i + 1) s2.heap ∧ ∀ b ∈ [N + 1, N], H' b = none) E size ⟨st.1, st.2, tup⟩ ?_
    rintro v h' tk ⟨T, tok, x, rfl, new, hx, told⟩ ⟨e', it', _⟩ kept _
    obtain ⟨y, hy, rxy⟩ : ∃ y, xs[i]? = some y ∧ RelV y x := by
      obtain ⟨u, hu, ru⟩ := Vals.get rel (List.getElem?_eq_getElem lt)
      rw [List.getElem?_toArray, hu] at hx
      cases Option.some.inj hx
      exact ⟨xs[i], List.getElem?_eq_getElem lt, ru⟩
    have fresh : H T = none := inv.hok.fresh new
    have laid : ObjOk X.prog X.w (upd H T (.tup [.int (i : Nat), y])) h' T (.tup [.int (i : Nat), y]) :=
      ⟨by show 2 ≤ sizeLine; decide, [.int ((0 : Int) + (i : Int)) tok, x], .cons ⟨tok, by rw [Int.zero_add]⟩ (.cons rxy .nil), told⟩
    refine ⟨.ref T, _, inv.turnedNew kept (fun q hq => own q hq) new laid, rfl, ⟨T, y, rfl, fresh, rfl, fun ys hys => by rw [inv.tuple_inj hys sq]; exact hy⟩, ⟨e', it'⟩, fun q hq => ?_⟩
    have ne : q ≠ T := fun z => by
      obtain ⟨ob, there, _⟩ := enum_obj st q hq
      exact absurd (Nat.lt_of_lt_of_le (Heap.lt_size there) (z ▸ new)) (Nat.lt_irrefl _)
    rw [upd_ne ne]
    exact (own q hq).1
  done := by
    intro X ep ew eK calm i pins s σ H E inv own st stop
    subst ep ew eK
    obtain ⟨xs, sq, le⟩ := stop
    obtain ⟨its, rel, tup, room⟩ := inv.tuple sq
    have G := enum_goes (prog := X.prog) (w := X.w) (inv.ok.hd calm) elts k pos N t nt nt1 its.toArray
    have size : i = its.toArray.size := by rw [List.size_toArray, ← rel.length]; exact le.symm
    subst size
    refine G.stops s (L2.Inv X pins σ H) E ⟨st.1, st.2, tup⟩ fun h' tk kept _ => ?_
    exact inv.turnedL kept fun q hq => own q hq
  self := fun _ _ _ _ _ st done => let ⟨⟨_, e⟩, _⟩ := st; wpAny_pyIter_enum e done
def iEnumT (K : PySem.W.Frag) (ta : TA) : TI := fun σ H R => ta σ H fun vs H1 => ∃ t xs, vs = [.ref t] ∧ SqT K H1 t xs ∧ R (IteT K t) H1
theorem pi_enumT {X : Cx} {e : Expr} {ta : TA} {p pos tpos : Pos} {elts : List Expr} {kk : Nat} (glob : Gl X "enumerate") (free : X.mg "enumerate" = none) (args : PA X [e] ta)
    (first : starEach [e] X.env = [(false, eval e X.env)] := by rfl) (plain : (backTo pos (starEach [] X.env)).any (·.1) = false := by rfl) :
    PI X (.Tuple elts kk tpos) (.Call (.Name "enumerate" p) [e] [] pos) (iEnumT X.K ta) where
  run pins s σ H R inv ask := by
    apply wpAny_Call_Name_kw
    apply ld_blt inv glob free PyProof.Rows.boot_enumerate
    apply PyProof.Rows.callWith_type1 _ first plain
    apply wpAny_mono (args.run pos pins s σ H _ inv ask) _ (fun _ _ raised => raised)
    rintro held s1 ⟨given, H1, inv1, rel, t, xs, rfl, sq, hand⟩
    match held, rel with
    | [_], .cons rfl .nil =>
      obtain ⟨its, rv, tup, room⟩ := inv1.tuple sq
      apply enum_made (begins_tuple t its.toArray) tup
      intro heap he hi kept
      apply wpAny_pyIter_enum he
      have inv2 : L2.Inv X pins σ H1 { s1 with heap := heap } := inv1.kept (t' := s1.toks) kept
      have below : t < s1.heap.objs.size := by
        obtain ⟨o, there, _⟩ := tup
        exact Heap.lt_size there
      have N1 : s1.heap.objs.size ≤ s1.heap.objs.size + 1 := Nat.le_succ _
      refine ⟨_, [s1.heap.objs.size + 1, s1.heap.objs.size], enumAt s1.heap.objs.size t, IteT X.K t, H1, rfl, inv2, enum_turn _ _ _ _ _ _ _ _ (Nat.ne_of_lt below) (Nat.ne_of_lt (Nat.lt_succ_of_lt below)), ⟨⟨.none, he⟩, ⟨_, hi, rfl, rfl⟩⟩, fun q hq => ?_, hand⟩
      have above : s1.heap.objs.size ≤ q := by
        simp only [List.mem_cons, List.not_mem_nil, or_false] at hq
        rcases hq with rfl | rfl
        · exact N1
        · exact Nat.le_refl _
      exact inv1.fpOk (H' := H1) above (inv1.hok.fresh above)
theorem walk_enumT {K : PySem.W.Frag} {t : Addr} {xs : List V} : Walk (IteT K t) xs.length (fun H => SqT K H t xs) (fun i H v H' => ∃ T x, v = .ref T ∧ H T = none ∧ H' = upd H T (.tup [.int (i : Nat), x]) ∧ xs[i]? = some x) where
  goes i H lt here := ⟨xs, here, lt⟩
  stops H here := ⟨xs, here, rfl⟩
  yields i H v H' lt here got := by
    obtain ⟨T, x, e1, e2, e3, which⟩ := got
    exact ⟨T, x, e1, e2, e3, which xs here⟩
end Tm

/-! for i, c in enumerate(text) -/
namespace Tm
open PySem PySem.Spec PyProof.Rows L2
/-- what enumerate of a text gives out -/
def IteX (cs : List Nat) : It :=
  ⟨fun i _ => i < cs.length, fun i H x H' => ∃ T c, x = .ref T ∧ H T = none ∧ H' = upd H T (.tup [.int (i : Nat), sig c]) ∧ cs[i]? = some c, fun i _ => i = cs.length⟩
def enumX (N : Addr) (x : Str) (t : Tok) (i : Nat) (h : Heap) : Prop := (∃ old, IsEnum h (N + 1) N ((0 : Int) + (i : Int)) old) ∧ h.IsStrIter N (strIterType x) x t i
theorem enumX_goes {prog : Program} {w : World} {A : Around} (hh : A.handled = none) (elts : List Expr) (k : Nat) (pos : Pos) (N : Addr) (x : Str) (t : Tok) :
    GoesN prog w A (.Tuple elts k pos) (N + 1) [N + 1, N] [N + 1, N] x.cps.size (fun i h₀ v h => ∃ T tok y, v = .ref T ∧ h₀.objs.size ≤ T ∧ (∃ c u, x.cps[i]? = some c ∧ y = .str ⟨#[c]⟩ u) ∧ h.IsTuple T #[.int ((0 : Int) + (i : Int)) tok, y]) (enumX N x t) :=
  GoesN.enumFrom (prog := prog) (w := w) (A := A) (elts := elts) (x1 := k) (pos := pos) 0 (Draws.text (A := A.in1) hh N x t) (N + 1) (Nat.succ_ne_self N) (by simp only [List.mem_cons, List.not_mem_nil, or_false]; exact Nat.succ_ne_self N) (by simp)
theorem enumX_obj {N : Addr} {x : Str} {t : Tok} {i : Nat} {h : Heap} (st : enumX N x t i h) : ∀ q ∈ [N + 1, N], ∃ o, h.get? q = some o ∧ ∀ v, o.data ≠ .cell v := by
  rcases st with ⟨⟨old, e⟩, ⟨o, g, c, d⟩⟩
  intro q hq
  rcases List.mem_cons.mp hq with rfl | hq
  · exact ⟨_, e, fun v z => by cases z⟩
  · rw [List.mem_singleton.mp hq]
    exact ⟨o, g, fun v z => by rw [d] at z; cases z⟩
theorem enumX_turn (P : Program) (w : World) (K : PySem.W.Frag) (elts : List Expr) (k : Nat) (pos : Pos) (N : Addr) (cs : List Nat) (t : Tok) : Turn P w K (.Tuple elts k pos) (IteX cs) [N + 1, N] (N + 1) (enumX N (txt cs) t) where
  mem := List.mem_cons_self ..
  obj := fun i h st => enumX_obj st
  keep := by
    rintro i h h' ⟨⟨old, e⟩, ⟨o, g, r⟩⟩ same
    exact ⟨⟨old, same _ (by simp) _ e⟩, ⟨o, same _ (by simp) _ g, r⟩⟩
  item := by
    intro X ep ew eK calm i pins s σ H E inv own st go
    subst ep ew eK
    have G := enumX_goes (prog := X.prog) (w := X.w) (inv.ok.hd calm) elts k pos N (txt cs) t
    refine G.goes i s (fun v s2 => ∃ x H', Inv X pins σ H' s2 ∧ RelV x v ∧ (IteX cs).yld i H x H' ∧ enumX N (txt cs) t (i + 1) s2.heap ∧ ∀ b ∈ [N + 1, N], H' b = none) E (by rw [size_txt]; exact go) st ?_
    rintro v h' tk ⟨T, tok, y, rfl, new, ⟨c, u, hc, rfl⟩, told⟩ st' kept _
    have fresh : H T = none := inv.hok.fresh new
    have laid : ObjOk X.prog X.w (upd H T (.tup [.int (i : Nat), sig c])) h' T (.tup [.int (i : Nat), sig c]) :=
      ⟨by show 2 ≤ sizeLine; decide, [.int ((0 : Int) + (i : Int)) tok, .str ⟨#[c]⟩ u], .cons ⟨tok, by rw [Int.zero_add]⟩ (.cons ⟨u, rfl⟩ .nil), told⟩
    refine ⟨.ref T, _, inv.turnedNew kept (fun q hq => own q hq) new laid, rfl, ⟨T, c, rfl, fresh, rfl, at_txt hc⟩, st', fun q hq => ?_⟩
    have ne : q ≠ T := by
      intro z
      obtain ⟨ob, there, _⟩ := enumX_obj st q hq
      exact absurd (Nat.lt_of_lt_of_le (Heap.lt_size there) (z ▸ new)) (Nat.lt_irrefl _)
    rw [upd_ne ne]
    exact (own q hq).1
  done := by
    intro X ep ew eK calm i pins s σ H E inv own st stop
    subst ep ew eK
    have G := enumX_goes (prog := X.prog) (w := X.w) (inv.ok.hd calm) elts k pos N (txt cs) t
    have e : i = (txt cs).cps.size := by rw [size_txt]; exact stop
    subst e
    refine G.stops s (Inv X pins σ H) E st fun h' tk kept _ => ?_
    exact inv.turnedL kept fun q hq => own q hq
  self := fun _ _ _ _ _ st done => let ⟨⟨_, e⟩, _⟩ := st; wpAny_pyIter_enum e done
def iEnumX (ta : TA) : TI := fun σ H R => ta σ H fun vs H1 => ∃ cs : List Nat, vs = [.str (txt cs)] ∧ R (IteX cs) H1
theorem pi_enumX {X : Cx} {e : Expr} {ta : TA} {p pos tpos : Pos} {elts : List Expr} {kk : Nat} (glob : Gl X "enumerate") (free : X.mg "enumerate" = none) (args : PA X [e] ta)
    (first : starEach [e] X.env = [(false, eval e X.env)] := by rfl) (plain : (backTo pos (starEach [] X.env)).any (·.1) = false := by rfl) :
    PI X (.Tuple elts kk tpos) (.Call (.Name "enumerate" p) [e] [] pos) (iEnumX ta) where
  run pins s σ H R inv ask := by
    apply wpAny_Call_Name_kw
    apply ld_blt inv glob free PyProof.Rows.boot_enumerate
    apply PyProof.Rows.callWith_type1 _ first plain
    apply wpAny_mono (args.run pos pins s σ H _ inv ask) _ (fun _ _ raised => raised)
    rintro held s1 ⟨given, H1, inv1, rel, cs, rfl, hand⟩
    match held, rel with
    | [_], .cons ⟨t, rfl⟩ .nil =>
      apply enum_made (begins_text (txt cs) t) trivial
      intro heap he hi kept
      apply wpAny_pyIter_enum he
      have inv2 : L2.Inv X pins σ H1 { s1 with heap := heap } := inv1.kept (t' := s1.toks) kept
      refine ⟨_, [s1.heap.objs.size + 1, s1.heap.objs.size], enumX s1.heap.objs.size (txt cs) t, IteX cs, H1, rfl, inv2, enumX_turn _ _ _ _ _ _ _ _ _, ⟨⟨.none, he⟩, ⟨_, hi, rfl, rfl⟩⟩, fun q hq => ?_, hand⟩
      have above : s1.heap.objs.size ≤ q := by
        rcases List.mem_cons.mp hq with rfl | hq
        · exact Nat.le_succ _
        · rw [List.mem_singleton.mp hq]
          exact Nat.le_refl _
      exact inv1.fpOk (H' := H1) above (inv1.hok.fresh above)
theorem walk_enumX {cs : List Nat} : Walk (IteX cs) cs.length (fun _ => True) (fun i H v H' => ∃ T c, v = .ref T ∧ H T = none ∧ H' = upd H T (.tup [.int (i : Nat), sig c]) ∧ cs[i]? = some c) where
  goes _ _ lt _ := lt
  stops _ _ := rfl
  yields _ _ _ _ _ _ got := got
end Tm

/-! min(list of texts): one of them -/
namespace Tm
open PySem PySem.Spec PyProof.Rows L2
theorem dp_texts {K : PySem.W.Frag} {H : Hp} : ∀ zs : List Str, DpAll K H (zs.map V.str) (zs.map PyData.str)
  | [] => .nil
  | z :: r => .cons (.str z) (dp_texts r)
theorem depth_texts : ∀ zs : List Str, PyData.depthAll (zs.map PyData.str) ≤ 1
  | [] => by simp [PyData.depthAll]
  | z :: r => by
    have := depth_texts r
    simp only [List.map_cons, PyData.depthAll, PyData.depth]
    omega
def rMinT (K : PySem.W.Frag) : List V → Hp → VK → Prop := fun given H Q => ∃ (p : Addr) (zs : List Str), given = [.ref p] ∧ SqL K H p (zs.map V.str) ∧ zs ≠ [] ∧ ∀ z ∈ zs, Q (.str z) H
theorem call_minT {X : Cx} (calm : X.calm = true) (room : X.A.units + 2 < cLine) : CallR X (.builtin "min") (rMinT X.K) :=
  fun pins s σ H given held Q inv rel ask => by
    rcases ask with ⟨p, zs, rfl, sq, some_, hand⟩
    match held, rel with
    | [_], .cons rfl .nil =>
      obtain ⟨us, vals, plain, _⟩ := inv.list sq
      obtain ⟨as, reads⟩ := Dp.readsAll inv _ _ _ (dp_texts zs) vals
      cases zs with
      | nil => exact absurd rfl some_
      | cons z r =>
        have d := depth_texts (z :: r)
        rw [List.map_cons] at d
        refine PySem.W.min_list_data (vs := us.toArray) (inv.ok.hd calm) plain.isList (by simpa using reads) ?_ (by omega) ?_
        · constructor
          · intro a ha b hb
            rw [← List.map_cons] at ha hb
            obtain ⟨a', _, rfl⟩ := List.mem_map.mp ha
            obtain ⟨b', _, rfl⟩ := List.mem_map.mp hb
            rfl
          · intro a ha
            rw [← List.map_cons] at ha
            obtain ⟨a', _, rfl⟩ := List.mem_map.mp ha
            intro e
            cases e
        · intro i v h' tk bs hv _ kept
          have hv' : us[i]? = some v := by
            have e : us.toArray[i]? = us[i]? := List.getElem?_toArray ..
            rw [← e]; exact hv
          have lt : i < ((z :: r).map V.str).length := by
            have := (List.getElem?_eq_some_iff.mp hv').1
            rw [vals.length]; exact this
          obtain ⟨u, hu, ru⟩ := Vals.get vals (List.getElem?_eq_getElem lt)
          rw [hu] at hv'
          cases hv'
          have lt2 : i < (z :: r).length := by rwa [List.length_map] at lt
          rw [List.getElem_map] at ru
          exact ⟨.str (z :: r)[i], H, inv.kept kept, ru, hand _ (List.getElem_mem lt2)⟩
end Tm

/-! tables of strings, and the values of words -/
namespace Tm
open PySem PySem.Spec PyProof.Rows L2
def rowsK (rows : List (Nat × List Nat)) : List (Key × V) := rows.map fun r => (Sum.inr (txt [r.1]), tv r.2)
theorem rowsK_at (c : Nat) : ∀ rows : List (Nat × List Nat), valV (rowsK rows) (Sum.inr (txt [c])) = (rows.lookup c).map tv
  | [] => rfl
  | r :: rs => by
    show valV ((Sum.inr (txt [r.1]), tv r.2) :: rowsK rs) (Sum.inr (txt [c])) = _
    by_cases h : c = r.1
    · subst h
      rw [valV_pos rfl, List.lookup_cons]
      simp
    · have ne : ¬ ((Sum.inr (txt [r.1]) : Key) = Sum.inr (txt [c])) := by
        intro e
        have e2 := txt_inj (Sum.inr.inj e)
        exact h (List.head_eq_of_cons_eq e2).symm
      rw [valV_neg ne, rowsK_at c rs, List.lookup_cons]
      have hb : (c == r.1) = false := by simpa using h
      rw [hb]
theorem lookup_mem {c : Nat} {x : List Nat} : ∀ {rows : List (Nat × List Nat)}, rows.lookup c = some x → (c, x) ∈ rows
  | [], h => by cases h
  | r :: rs, h => by
    rw [List.lookup_cons] at h
    cases hb : c == r.1 with
    | true =>
      rw [hb] at h
      have e : c = r.1 := by simpa using hb
      cases h
      rw [e]
      exact List.mem_cons_self
    | false =>
      rw [hb] at h
      exact List.mem_cons_of_mem _ (lookup_mem h)
theorem mem_lookup {c : Nat} : ∀ {rows : List (Nat × List Nat)}, c ∈ rows.map (·.1) → ∃ x, rows.lookup c = some x
  | [], h => by cases h
  | r :: rs, h => by
    rw [List.lookup_cons]
    cases hb : c == r.1 with
    | true => exact ⟨_, rfl⟩
    | false =>
      rcases List.mem_cons.mp h with e | e
      · exact absurd (by simpa using e) (by simpa using hb)
      · exact mem_lookup e
structure Tbl (H : Hp) (d : Addr) (n : Nat) (rows : List (Nat × List Nat)) : Prop where
  at_ : H d = some (.dK (rowsK rows))
  few : rows.length ≤ 30
  all : ∀ r ∈ rows, Sn n r.2
  small : n ≤ 900
theorem Tbl.same {H H' : Hp} {d : Addr} {n : Nat} {rows : List (Nat × List Nat)} (t : Tbl H d n rows) (s : Same H H') : Tbl H' d n rows := ⟨s _ _ t.at_, t.few, t.all, t.small⟩
def sizeN (n : Nat) (rows : List (Nat × List Nat)) : Nat := if rows.isEmpty then 0 else n
def strsOf (rows : List (Nat × List Nat)) (cs : List Nat) : List (List Nat) := cs.filterMap fun c => rows.lookup c
def prodL (n : Nat) (rows : List (Nat × List Nat)) (word : List Nat) : List Nat := multL (List.replicate (sizeN n rows) 49 :: strsOf rows (lettersL word))
def valL (n : Nat) (rows : List (Nat × List Nat)) (word : List Nat) : List Nat := signedL ((signL word : Nat) + (signL (prodL n rows word) : Nat) : Int) (lettersL (prodL n rows word))
theorem strs_sn {n : Nat} {rows : List (Nat × List Nat)} (all : ∀ r ∈ rows, Sn n r.2) (cs : List Nat) : ∀ x ∈ strsOf rows cs, Sn (sizeN n rows) x := by
  intro x hx
  obtain ⟨c, _, hc⟩ := List.mem_filterMap.mp hx
  have m := lookup_mem hc
  have ne : rows.isEmpty = false := by
    cases rows with
    | nil => cases m
    | cons _ _ => rfl
  unfold sizeN
  rw [ne]
  exact all _ m
theorem strs_len (rows : List (Nat × List Nat)) (cs : List Nat) : (strsOf rows cs).length ≤ cs.length := List.length_filterMap_le ..
def spSizeOf : Sp := fun vs H Q _ => ∃ (d : Addr) (n : Nat) (rows : List (Nat × List Nat)), vs = [.ref d] ∧ Tbl H d n rows ∧ ∀ H', Same H H' → Q (.int ((sizeN n rows : Nat) : Int)) H'
def goodW (rows : List (Nat × List Nat)) (cs : List Nat) : Prop := ∀ c ∈ cs, ∃ x, rows.lookup c = some x
def spValue (CI : Addr) : Sp := fun vs H Q E => ∃ (d : Addr) (n : Nat) (rows : List (Nat × List Nat)) (word : List Nat), vs = [.ref d, tv word] ∧ Tbl H d n rows ∧ word.length ≤ 20 ∧ (lettersL word).length ≤ 19 ∧
  (goodW rows (lettersL word) → ∀ H', Same H H' → Q (tv (valL n rows word)) H') ∧
  (∀ (i c : Nat), (lettersL word)[i]? = some c → rows.lookup c = none → goodW rows ((lettersL word).take i) → ∀ H' dd, Same H H' → H dd = none → H' dd = some (.xd [("position", .int (i : Nat)), ("code", .str "invalidword")]) → E (.ref CI) (some dd) H')
end Tm

namespace T25
open PySem PySem.Spec PyProof.Rows L2 Tm
abbrev sSizeOf : Stmt := topS 19
theorem scSizeOf : FnScope ["table"] ["table"] (defScope sSizeOf) := ⟨rfl, rfl, rfl, by decide +kernel, rfl, by decide +kernel, by decide +kernel⟩
abbrev sValueOf : Stmt := topS 20
theorem scValueOf : FnScope ["table", "word", "letters", "position", "letter", "strings", "product"] ["table", "word"] (defScope sValueOf) := ⟨rfl, rfl, rfl, by decide +kernel, rfl, by decide +kernel, by decide +kernel⟩
section
variable {P : Program} {w : World} {K : PySem.W.Frag} {mg : Str → Option Value} {base : Heap}
theorem ok_sizeof {f fL : Addr} {fd fdL : FuncData} (F : Fun K "size_of" "size_of" sSizeOf f fd) (FL : Fun K "letters_of" "letters_of" sLettersOf fL fdL) (bL : Binds K fdL ["text"] []) (gL : mg "letters_of" = some (.ref fL)) (ml : mg "len" = none) (mm : mg "min" = none) (mli : mg "list" = none) :
    FnOk P w K mg base CX0 2 f fd ["table"] spSizeOf := by
  have GL : FnOk P w K mg base CX0 1 fL fdL ["text"] spLetters := ok_letters FL
  refine F.ok scSizeOf (fun vs H Q E h => ?_) (fun cdv A outer s H vs Q E hr h => ?_)
  · obtain ⟨d, n, rows, rfl, _⟩ := h
    rfl
  · obtain ⟨d, n, rows, rfl, t, q⟩ := h
    refine ⟨_, pss_one (ps_ret (pe_ifExp (pt_truth (pv 0) (fun _ => rfl)) (pe_callB call_len_str (by rfl) ml PySem.boot_len (pa_cons (pe_call GL hr (by rfl) gL FL.kp bL .nil pass0 (pa_cons (pe_dget (hu_of hr) (pv 0)
      (pe_callB (call_minT rfl (Nat.lt_of_le_of_lt (Nat.add_le_add_left (by decide : 2 ≤ 64) _) hr.units)) (by rfl) mm (by decide +kernel) (pa_cons (pe_callTy (call_listD rfl) (by rfl) mli boot_list (pa_cons (pv 0) pa_nil)) pa_nil)) (fun _ _ => rfl)) pa_nil)) pa_nil)) pe_int)), ?_⟩
    refine ⟨_, rfl, !rows.isEmpty, .inr (.inr ⟨_, t.at_, by unfold rowsK; rw [List.isEmpty_map]⟩), ?_⟩
    cases rows with
    | nil => exact iteF (q H (Same.refl H))
    | cons r rs =>
      refine iteT ⟨_, rfl, _, rfl, d, _, rfl, .inl t.at_, fun p np => ?_⟩
      have e : (rowsK (r :: rs)).map (fun kv => kV kv.1) = ((r :: rs).map fun r => txt [r.1]).map V.str := by
        unfold rowsK
        rw [List.map_map, List.map_map]
        rfl
      rw [e]
      refine ⟨p, _, rfl, SqL.of upd_same, by simp, fun z hz => ?_⟩
      obtain ⟨r', hr', rfl⟩ := List.mem_map.mp hz
      obtain ⟨x, hx⟩ := mem_lookup (List.mem_map.mpr ⟨r', hr', rfl⟩ : r'.1 ∈ (r :: rs).map (·.1))
      have sn : Sn n x := t.all _ (lookup_mem hx)
      have look : valV (rowsK (r :: rs)) (Sum.inr (txt [r'.1])) = some (tv x) := by rw [rowsK_at, hx]; rfl
      have got : DGet (upd H p (.lst (((r :: rs).map fun r => txt [r.1]).map V.str))) d (.str (txt [r'.1])) (some (tv x)) := look ▸ DGet.k (k := Sum.inr (txt [r'.1])) ((same_upd np) _ _ t.at_)
      refine ⟨d, _, rfl, got, x, rfl, ?_, _, rfl, ?_⟩
      · have := sn.len.1
        have := t.small
        exact Nat.le_of_lt (small1000 (by omega))
      · have l2 := sn.len.2.1
        rw [txt_len, l2]
        have := t.small
        exact ⟨Nat.le_of_lt (small1000 (by omega)), q _ (same_upd np)⟩
end


end T25

namespace T25
open PySem PySem.Spec PyProof.Rows L2 Tm
section
variable {P : Program} {w : World} {K : PySem.W.Frag} {mg : Str → Option Value} {base : Heap}
set_option maxHeartbeats 2000000 in
theorem ok_valueof {f fL fO fS fZ fI fM fX CI : Addr} {fd fdL fdO fdS fdZ fdI fdX : FuncData} (F : Fun K "value_of" "value_of" sValueOf f fd)
    (FL : Fun K "letters_of" "letters_of" sLettersOf fL fdL) (bL : Binds K fdL ["text"] []) (gL : mg "letters_of" = some (.ref fL))
    (FO : Fun K "sign_of" "sign_of" sSignOf fO fdO) (bO : Binds K fdO ["text"] []) (gO : mg "sign_of" = some (.ref fO))
    (FS : Fun K "signed" "signed" sSigned fS fdS) (bS : Binds K fdS ["turns", "letters"] []) (gS : mg "signed" = some (.ref fS))
    (FZ : Fun K "size_of" "size_of" sSizeOf fZ fdZ) (bZ : Binds K fdZ ["table"] []) (gZ : mg "size_of" = some (.ref fZ))
    (FI : Fun K "identity" "identity" sIden fI fdI) (bI : Binds K fdI ["size"] []) (gI : mg "identity" = some (.ref fI))
    (RM : FnR P w K mg base CX0 4 fM spMult) (kM : PySem.W.keepIn K (.ref fM) = true) (gM : mg "multiply" = some (.ref fM))
    (FX : Fun K "__init__" "InvalidWord.__init__" sIW fX fdX) (bX : Binds K fdX ["self", "position"] []) (T : OexC K CI) (iX : PySem.W.findIn K (.ref CI) "__init__" = some (some (.ref fX))) (tX : PySem.W.typeIn K (.ref fX) = some (.type "function"))
    (nc : PySem.W.findIn K (.ref CI) "code" = some none) (np : PySem.W.findIn K (.ref CI) "position" = some none) (gX : mg "InvalidWord" = some (.ref CI))
    (ml : mg "len" = none) (mm : mg "min" = none) (mli : mg "list" = none) (me : mg "enumerate" = none) :
    FnOk P w K mg base (L2.CX P w) 5 f fd ["table", "word"] (spValue CI) := by
  have GL : FnOk P w K mg base CX0 1 fL fdL ["text"] spLetters := ok_letters FL
  have GO : FnOk P w K mg base CX0 2 fO fdO ["text"] spSignOf := ok_signof FO FL bL gL ml
  have GS : FnOk P w K mg base CX0 1 fS fdS ["turns", "letters"] spSigned := ok_signed FS
  have GZ : FnOk P w K mg base CX0 2 fZ fdZ ["table"] spSizeOf := ok_sizeof FZ FL bL gL ml mm mli
  have GI : FnOk P w K mg base CX0 1 fI fdI ["size"] spIden := ok_iden FI
  have GX : FnOk P w K mg base CX0 1 fX fdX ["self", "position"] (spErr CI "invalidword" "position") := ok_iw FX T nc np
  refine F.okX scValueOf (fun vs H Q E h => ?_) (fun cdv A outer s H vs Q E hr h => ?_)
  · obtain ⟨d, n, rows, word, rfl, _⟩ := h
    rfl
  · obtain ⟨d, n, rows, word, rfl, tb, lw, ll, good, bad⟩ := h
    have hr1 : Room 1 _ := hr.mono (by decide)
    have hr2 : Room 2 _ := hr.mono (by decide)
    refine ⟨_, pss_cons (ps_set (i := 2) scValueOf.nd rfl (.inl rfl) (pe_call GL hr1 (by rfl) gL FL.kp bL .nil pass0 (pa_cons (pv 1) pa_nil)))
      (pss_cons (ps_for (passes_of rfl) rfl (pi_enumX (by rfl) me (pa_cons (pv 2) pa_nil)) (pg_tup rfl (pgs_cons (pg_name (i := 3) scValueOf.nd rfl (.inl rfl)) (pgs_cons (pg_name (i := 4) scValueOf.nd rfl (.inl rfl)) pgs_nil)))
        (pss_one (ps_if (pt_cmp (pc_dnotin (hu_of hr) (pv 4) (pv 0))) (pss_one (ps_raise rfl (takes_of rfl rfl rfl rfl) (pmk_oex T iX tX GX hr2 bX .nil pass0 (by rfl) gX (pa_cons (pv 3) pa_nil)))) pss_nil)))
      (pss_cons (ps_set (i := 5) scValueOf.nd rfl (.inl rfl) (pe_op op_cat (pe_lst (pa_cons (pe_call GI hr1 (by rfl) gI FI.kp bI .nil pass0 (pa_cons (pe_call GZ hr2 (by rfl) gZ FZ.kp bZ .nil pass0 (pa_cons (pv 0) pa_nil)) pa_nil)) pa_nil))
        (pe_lc (own := [("letter", 4)]) (g := gName 4) (tt := tYes) rfl scValueOf.nd (pi_str (pv 2)) (blkOk_by (own := [("letter", 4)]) (N := ["table", "word", "letters", "position", "letter", "strings", "product"]) (sc := defScope sValueOf) (by decide +kernel)) (fun _ _ _ _ _ => pg_name (i := 4) scValueOf.nd rfl (Or.inl rfl)) (fun _ _ _ _ _ => pts_nil)
          (fun _ _ _ _ _ => pe_dget (hu_of hr) (pv 0) (pv 4) (fun _ _ => rfl)))))
      (pss_cons (ps_set (i := 6) scValueOf.nd rfl (.inl rfl) (StX.pe_callS1 RM hr kM (by rfl) gM pass0 (pv 5)))
      (pss_one (ps_ret (pe_call GS hr1 (by rfl) gS FS.kp bS .nil pass0 (pa_cons (pe_op op_add (pe_call GO hr2 (by rfl) gO FO.kp bO .nil pass0 (pa_cons (pv 1) pa_nil)) (pe_call GO hr2 (by rfl) gO FO.kp bO .nil pass0 (pa_cons (pv 6) pa_nil))) (pa_cons (pe_call GL hr1 (by rfl) gL FL.kp bL .nil pass0 (pa_cons (pv 6) pa_nil)) pa_nil)))))))), ?_⟩
    refine ⟨_, rfl, word, rfl, Nat.le_of_lt (small1000 (by omega)), ?_⟩
    refine ⟨_, rfl, lettersL word, rfl, ?_⟩
    refine for_it (walk_enumX (cs := lettersL word)) (fun i σ H' => ∃ y3 y4 : Option V, σ = [some (.ref d), some (tv word), some (tv (lettersL word)), y3, y4, none, none] ∧ Same H H' ∧ goodW rows ((lettersL word).take i))
      ⟨none, none, rfl, Same.refl H, fun c hc => by cases hc⟩ (fun _ _ _ _ _ => trivial) ?_ ?_
    · rintro i v σ H1 H2 hi ⟨y3, y4, rfl, s1, here⟩ ⟨T1, c, rfl, nT, rfl, hc⟩
      refine ⟨T1, _, rfl, SqT.of upd_same, rfl, _, _, rfl, _, _, rfl, rfl, ?_⟩
      have at2 : (upd H1 T1 (.tup [.int (i : Nat), sig c])) d = some (.dK (rowsK rows)) := (same_upd nT) _ _ (s1 _ _ tb.at_)
      refine ⟨_, rfl, _, rfl, d, _, rfl, DGet.k (k := Sum.inr (txt [c])) at2, _, rfl, ?_⟩
      rw [rowsK_at]
      have s2 := s1.trans (same_upd (o := .tup [.int (i : Nat), sig c]) nT)
      cases e : rows.lookup c with
      | some x =>
        refine iteF ⟨_, _, rfl, s2, ?_⟩
        intro c' hc'
        rw [List.take_succ, hc] at hc'
        rcases List.mem_append.mp hc' with hc' | hc'
        · exact here c' hc'
        · rw [List.mem_singleton.mp hc']
          exact ⟨x, e⟩
      | none =>
        refine iteT (made_err ⟨_, rfl, _, rfl, fun H3 dd s3 nd h3 => ?_⟩ ?_)
        · exact bad i c hc e here H3 dd (s2.trans s3) (s2.free nd) h3
        · rintro R S imp ⟨v, hv, h⟩
          exact ⟨v, hv, imp _ _ h⟩
    · rintro σ H1 ⟨y3, y4, rfl, s1, here⟩
      rw [List.take_length] at here
      have few : sizeN n rows ≤ 900 := by
        have := tb.small
        unfold sizeN
        split
        · omega
        · exact this
      refine ⟨_, rfl, d, n, rows, rfl, tb.same s1, fun H2 s2 => ?_⟩
      refine ⟨sizeN n rows, rfl, few, (by show 1 ≤ sizeLine; decide), fun l1 nl1 => ?_⟩
      have s3 := (s1.trans s2).trans (same_upd (o := .lst [tv (List.replicate (sizeN n rows) 49)]) nl1)
      have h1 : (upd H2 l1 (.lst [tv (List.replicate (sizeN n rows) 49)])) l1 = some (.lst [tv (List.replicate (sizeN n rows) 49)]) := upd_same
      generalize upd H2 l1 (.lst [tv (List.replicate (sizeN n rows) 49)]) = H3 at s3 h1 ⊢
      refine ⟨_, rfl, _, rfl, fun D nD => ?_⟩
      have hsz : (txt (lettersL word)).cps.size = (lettersL word).length := txt_len _
      refine lc_it (walk_str (z := txt (lettersL word))) (fun i J => Same H3 J ∧ J D = some (.lst ((strsOf rows ((lettersL word).take i)).map tv))) ⟨same_upd nD, upd_same⟩ (fun _ _ _ _ => trivial) ?_ ?_
      · rintro i v J J' hi ⟨sJ, hD⟩ ⟨rfl, c, hc, rfl⟩
        rw [hsz] at hi
        have ec := at_txt hc
        obtain ⟨x, hx⟩ := here c (List.mem_of_getElem? ec)
        have look : valV (rowsK rows) (Sum.inr (txt [c])) = some (tv x) := by rw [rowsK_at, hx]; rfl
        have got : DGet J' d (.str (txt [c])) (some (tv x)) := look ▸ DGet.k (k := Sum.inr (txt [c])) (sJ _ _ (s3 _ _ tb.at_))
        refine ⟨rfl, ?_⟩
        refine ⟨_, rfl, _, rfl, d, _, rfl, got, _, hD, ?_, same_put sJ nD, ?_⟩
        · have := strs_len rows ((lettersL word).take i)
          rw [List.length_take] at this
          rw [List.length_map]
          exact small1000 (by omega)
        · rw [upd_same, List.take_succ, ec]
          unfold strsOf
          rw [List.filterMap_append, List.map_append]
          simp [hx]
      · rintro J ⟨sJ, hD⟩
        rw [hsz, List.take_length] at hD
        have sn := strs_sn tb.all (lettersL word)
        have len := strs_len rows (lettersL word)
        refine ⟨l1, D, _, _, rfl, rfl, sJ _ _ h1, hD, ?_, fun p np => ?_⟩
        · rw [List.length_map]
          exact Nat.le_of_lt (small1000 (by show 1 + _ ≤ 1000; omega))
        refine ⟨_, rfl, p, _, rfl, .inr (SqL.of upd_same), ?_⟩
        show spMult ((List.replicate (sizeN n rows) 49 :: strsOf rows (lettersL word)).map tv) _ _ _
        refine ⟨sizeN n rows, _, rfl, few, by rw [List.length_cons]; omega, ?_, fun H5 s5 => ?_⟩
        · intro x hx
          rcases List.mem_cons.mp hx with rfl | hx
          · exact Sn.one _
          · exact sn x hx
        have sp : Sn (sizeN n rows) (prodL n rows word) := Sn.fold (Sn.one _) sn
        have lp : (prodL n rows word).length ≤ 901 := by have := sp.len.1; omega
        have lq : (lettersL (prodL n rows word)).length ≤ 900 := by rw [sp.len.2.1]; exact few
        have hs : (prodL n rows word).length ≤ sizeLine := Nat.le_of_lt (small1000 (by omega))
        refine ⟨_, rfl, word, rfl, Nat.le_of_lt (small1000 (by omega)), _, rfl, prodL n rows word, rfl, hs, _, _, rfl, rfl, _, rfl, prodL n rows word, rfl, hs, ?_⟩
        refine ⟨_, _, rfl, small1000 (by omega), ?_⟩
        exact good here H5 ((s3.trans sJ).trans ((same_upd np).trans s5))
end


end T25

namespace T25
open PySem PySem.Spec PyProof.Rows L2 Tm
abbrev sProd : Stmt := topS 22
theorem scProd : FnScope ["words", "letters", "word"] ["words"] (defScope sProd) := ⟨rfl, rfl, rfl, by decide +kernel, rfl, by decide +kernel, by decide +kernel⟩
section
variable {P : Program} {w : World} {K : PySem.W.Frag} {mg : Str → Option Value} {base : Heap}
theorem ok_prod {f fL fO fS : Addr} {fd fdL fdO fdS : FuncData} (F : Fun K "product" "product" sProd f fd) (FL : Fun K "letters_of" "letters_of" sLettersOf fL fdL) (bL : Binds K fdL ["text"] []) (gL : mg "letters_of" = some (.ref fL))
    (FO : Fun K "sign_of" "sign_of" sSignOf fO fdO) (bO : Binds K fdO ["text"] []) (gO : mg "sign_of" = some (.ref fO)) (FS : Fun K "signed" "signed" sSigned fS fdS) (bS : Binds K fdS ["turns", "letters"] []) (gS : mg "signed" = some (.ref fS)) (ml : mg "len" = none) (ms : mg "sum" = none) :
    FnR P w K mg base CX0 3 f spProd := by
  have GL : FnOk P w K mg base CX0 1 fL fdL ["text"] spLetters := ok_letters FL
  have GO : FnOk P w K mg base CX0 2 fO fdO ["text"] spSignOf := ok_signof FO FL bL gL ml
  have GS : FnOk P w K mg base CX0 1 fS fdS ["turns", "letters"] spSigned := ok_signed FS
  rcases F.ex with ⟨_, _, _, _, _, _, cdv, _, _, rfl, look, code⟩
  refine FnR.imp (StX.fn_star (ps := []) (pv := "words") (sp := spProdT) (k := 2) look code scProd StX.cxUp_none ?bind ?body) ?imp
  case bind =>
    intro us rest h
    match us, rest, h with
    | [], [], _ => rfl
    | [], r :: rs, _ => rfl
  case imp =>
    rintro vs H Q E ⟨xss, rfl, few, q⟩
    refine ⟨[], _, rfl, rfl, ?_, fun p np => ⟨p, xss, rfl, upd_same, few, fun H' s' => q H' ((same_upd np).trans s')⟩⟩
    rw [List.length_map]
    exact Nat.le_of_lt (small1000 (by have := few.1; omega))
  case body =>
    intro A outer s H vs Q E hr h
    obtain ⟨p, xss, rfl, hp, few, q⟩ := h
    have hr1 : Room 1 _ := hr.mono (by decide)
    refine ⟨_, PSs.nox (pss_cons (ps_set (i := 1) scProd.nd rfl (.inl rfl) (pe_join pe_str (pe_lc (own := [("word", 2)]) (g := gName 2) (tt := tYes) rfl scProd.nd (pi_tup (pv 0)) (blkOk_by (own := [("word", 2)]) (N := ["words", "letters", "word"]) (sc := defScope sProd) (by decide +kernel))
        (fun _ _ _ _ _ => pg_name (i := 2) scProd.nd rfl (Or.inl rfl)) (fun _ _ _ _ _ => pts_nil) (fun _ _ _ _ _ => pe_call GL hr1 (by rfl) gL FL.kp bL .nil pass0 (pa_cons (pv 2) pa_nil)))))
      (pss_one (ps_ret (pe_call GS hr1 (by rfl) gS FS.kp bS .nil pass0 (pa_cons (pe_callB (cr_sum rfl) (by rfl) ms boot_sum (pa_cons (pe_lc (own := [("word", 2)]) (g := gName 2) (tt := tYes) rfl scProd.nd (pi_tup (pv 0)) (blkOk_by (own := [("word", 2)]) (N := ["words", "letters", "word"]) (sc := defScope sProd) (by decide +kernel))
        (fun _ _ _ _ _ => pg_name (i := 2) scProd.nd rfl (Or.inl rfl)) (fun _ _ _ _ _ => pts_nil) (fun _ _ _ _ _ => pe_call GO hr (by rfl) gO FO.kp bO .nil pass0 (pa_cons (pv 2) pa_nil))) pa_nil)) (pa_cons (pv 1) pa_nil)))))), ?_⟩
    have at_i : ∀ {i : Nat} {v : V}, (xss.map tv)[i]? = some v → ∃ x, xss[i]? = some x ∧ v = tv x ∧ x.length ≤ 1000 := by
      intro i v hv
      rw [List.getElem?_map] at hv
      cases ex : xss[i]? with
      | none => rw [ex] at hv; cases hv
      | some x =>
        rw [ex] at hv
        exact ⟨x, rfl, (Option.some.inj hv).symm, few.2 x (List.mem_of_getElem? ex)⟩
    have len : (xss.map tv).length = xss.length := List.length_map ..
    have n10 := few.1
    refine ⟨⟨_, rfl⟩, _, rfl, p, rfl, ⟨_, .inl (.inl hp)⟩, fun D nD => ?_⟩
    refine lc_tup (K := K) (a := p) (xs := xss.map tv) (fun i H' => Same H H' ∧ H' D = some (.lst (((xss.take i).map lettersL).map tv))) ⟨same_upd nD, upd_same⟩ (fun i H' _ hv => .inl (.inl (hv.1 _ _ hp))) ?_ ?_
    · rintro i v H1 hv ⟨s1, hD⟩
      obtain ⟨x, ex, rfl, hx⟩ := at_i hv
      have hi : i < xss.length := (List.getElem?_eq_some_iff.mp ex).1
      refine ⟨rfl, ?_⟩
      refine ⟨_, rfl, x, rfl, Nat.le_of_lt (small1000 hx), _, hD, ?_, same_put s1 nD, ?_⟩
      · rw [List.length_map, List.length_map, List.length_take]
        exact small1000 (by omega)
      · rw [upd_same, List.take_succ, ex, List.map_append, List.map_append]
        rfl
    · rintro H1 ⟨s1, hD⟩
      rw [len, List.take_length] at hD
      have hD' : H1 D = some (.lst (((xss.map lettersL).map txt).map V.str)) := by
        rw [hD, List.map_map (f := txt)]
        rfl
      have all := few.all
      refine ⟨Str.ofString "", D, (xss.map lettersL).map txt, rfl, rfl, .inl (SqL.of hD'), ?_, ?_⟩
      · rw [lens_txt, txt_empty, txt_len]
        show (allL xss).length + _ * 0 ≤ _
        omega
      rw [join_txt]
      refine ⟨_, rfl, p, rfl, ⟨_, .inl (.inl (s1 _ _ hp))⟩, fun D2 nD2 => ?_⟩
      refine lc_tup (K := K) (a := p) (xs := xss.map tv) (fun i H' => Same H1 H' ∧ H' D2 = some (.lst (((xss.take i).map signL).map fun n : Nat => V.int n))) ⟨same_upd nD2, upd_same⟩ (fun i H' _ hv => .inl (.inl (hv.1 _ _ (s1 _ _ hp)))) ?_ ?_
      · rintro i v H2 hv ⟨s2, hD2⟩
        obtain ⟨x, ex, rfl, hx⟩ := at_i hv
        have hi : i < xss.length := (List.getElem?_eq_some_iff.mp ex).1
        refine ⟨rfl, ?_⟩
        refine ⟨_, rfl, x, rfl, Nat.le_of_lt (small1000 hx), _, hD2, ?_, same_put s2 nD2, ?_⟩
        · rw [List.length_map, List.length_map, List.length_take]
          exact small1000 (by omega)
        · rw [upd_same, List.take_succ, ex, List.map_append, List.map_append]
          rfl
      · rintro H2 ⟨s2, hD2⟩
        rw [len, List.take_length] at hD2
        have hD3 : H2 D2 = some (.lst (((xss.map signL).map fun n : Nat => (n : Int)).map V.int)) := by
          rw [hD2, List.map_map (f := fun n : Nat => (n : Int))]
          rfl
        refine ⟨D2, _, rfl, SqL.of hD3, _, rfl, _, allL xss, rfl, Nat.lt_of_le_of_lt all (by decide), ?_⟩
        rw [sum_int]
        exact q H2 (s1.trans s2)
end


end T25

/-! what the statement on values of words builds and asks -/
namespace Tm
open PySem PySem.Spec PyProof.Rows L2
structure TblL (H : Hp) (d : Addr) (n : Nat) (rows : List (Nat × List Nat)) : Prop where
  tbl : Tbl H d n rows
  once : (rows.map (·.1)).Nodup
  abc : ∀ r ∈ rows, r.1 ∈ alpha
theorem TblL.same {H H' : Hp} {d : Addr} {n : Nat} {rows : List (Nat × List Nat)} (t : TblL H d n rows) (s : Same H H') : TblL H' d n rows := ⟨t.tbl.same s, t.once, t.abc⟩
theorem TblL.keep {H H' : Hp} {b d : Addr} {n : Nat} {rows : List (Nat × List Nat)} (t : TblL H d n rows) (nb : d ≠ b) (k : Kp b H H') : TblL H' d n rows := ⟨⟨k _ _ nb t.tbl.at_, t.tbl.few, t.tbl.all, t.tbl.small⟩, t.once, t.abc⟩
/-- a word of letters of the table -/
def WordOf (rows : List (Nat × List Nat)) (most : Nat) (word : List Nat) : Prop := ∃ s cs, word = wd s cs ∧ cs.length ≤ most ∧ ∀ c ∈ cs, c ∈ rows.map (·.1)
def spText : Sp := fun vs H Q _ => ∃ (b l r m d : Addr) (n most : Nat) (rows : List (Nat × List Nat)), vs = [.ref b, .ref r, .int (most : Nat)] ∧ Bag H b l ∧ H r = some (.tup [.ref m, .ref d]) ∧ TblL H d n rows ∧ most ≤ 100 ∧
  ∀ H' word, Kp b H H' → Bag H' b l → WordOf rows most word → Q (tv word) H'
def spLSize : Sp := fun vs H Q _ => ∃ (d : Addr) (n : Nat) (rows : List (Nat × List Nat)), vs = [.ref d] ∧ TblL H d n rows ∧ ∀ H', Same H H' → Q (.int ((sizeN n rows : Nat) : Int)) H'
def spLValue : Sp := fun vs H Q _ => ∃ (d : Addr) (n : Nat) (rows : List (Nat × List Nat)) (word : List Nat), vs = [.ref d, tv word] ∧ TblL H d n rows ∧ word.length ≤ 20 ∧ (lettersL word).length ≤ 19 ∧ goodW rows (lettersL word) ∧ ∀ H', Same H H' → Q (tv (valL n rows word)) H'
def spKeys : Sp := fun vs H Q _ => ∃ (b l d : Addr) (n : Nat) (rows : List (Nat × List Nat)), vs = [.ref b, .ref d] ∧ Bag H b l ∧ TblL H d n rows ∧ ∀ H' p rows', Kp b H H' → Bag H' b l → H p = none → TblL H' p n rows' → rows'.Perm rows → Q (.ref p) H'
theorem keys_rows (rows : List (Nat × List Nat)) : (rowsK rows).map (·.1) = (rows.map fun r => txt [r.1]).map Sum.inr := by
  unfold rowsK
  rw [List.map_map, List.map_map]
  rfl
theorem strOk_sig {c : Nat} (h : c ∈ alpha) : PyData.strOk (txt [c]) = true := by
  have all : ∀ c ∈ alpha, PyData.strOk (txt [c]) = true := by decide +kernel
  exact all c h
theorem Sn.self {n : Nat} {x : List Nat} (h : Sn n x) : signedL ((signL x : Nat) : Int) (lettersL x) = x := by
  obtain ⟨s, cs, rfl, l, a⟩ := h
  rw [letters_wd a.lt, sign_wd a.lt]
  exact signed_wd0 cs
theorem lay_texts : ∀ zs : List Str, (∀ z ∈ zs, PyData.strOk z = true) → PyData.canLayAll0 (zs.map PyData.str) = true
  | [], _ => by simp [PyData.canLayAll0]
  | z :: r, h => by
    have rest := lay_texts r fun x hx => h x (List.mem_cons_of_mem _ hx)
    simp [PyData.canLayAll0, PyData.canLay0, rest, h z List.mem_cons_self]
theorem shaped_texts {zs : List Str} (h : ∀ z ∈ zs, PyData.strOk z = true) : SeqAt.shaped (.list (zs.map PyData.str)) = true := by
  have d := depth_texts zs
  unfold SeqAt.shaped
  rw [PyData.canLay0, lay_texts zs h, PyData.depth, Bool.true_and]
  exact decide_eq_true (by omega)
end Tm

namespace T25
open PySem PySem.Spec PyProof.Rows L2 Tm
abbrev sLSize : Stmt := topS 39
theorem scLSize : FnScope ["_law_strings_in", "_law_letter"] ["_law_strings_in"] (defScope sLSize) := ⟨rfl, rfl, rfl, by decide +kernel, rfl, by decide +kernel, by decide +kernel⟩
abbrev sLValue : Stmt := topS 40
theorem scLValue : FnScope ["_law_strings_in", "_law_text_here", "_law_size_here", "_law_found", "_law_sign"] ["_law_strings_in", "_law_text_here"] (defScope sLValue) := ⟨rfl, rfl, rfl, by decide +kernel, rfl, by decide +kernel, by decide +kernel⟩
theorem two_minus {n : Nat} {x : List Nat} (hx : Sn n x) : two x (45 :: List.replicate n 49) = signedL (((1 : Nat) : Int) + ((signL x : Nat) : Int)) (lettersL x) := by
  have one := two_one hx
  have body : lettersL (45 :: List.replicate n 49) = List.replicate n 49 := rfl
  have ones : lettersL (List.replicate n 49) = List.replicate n 49 := letters_wd (s := false) (al_ones n).lt
  have s0 : signL (List.replicate n 49) = 0 := sign_wd (s := false) (al_ones n).lt
  have s1 : signL (45 :: List.replicate n 49) = 1 := rfl
  obtain ⟨s, cs, rfl, len, al⟩ := hx
  unfold two at one ⊢
  rw [body, s1]
  rw [ones, s0] at one
  rw [letters_wd al.lt, sign_wd al.lt] at *
  rw [signed_wd] at one ⊢
  rw [signed_wd]
  have lz : zL cs (List.replicate n 49) = cs := by
    have e := congrArg lettersL one
    rw [letters_wd al.lt, letters_wd] at e
    · exact e
    · exact (zL_al al (al_ones n)).lt
  have ez : decide ((((s.toNat + 0 + zS cs (List.replicate n 49) : Nat) : Int)) % 2 = 1) = s := by
    have e := congrArg signL one
    rw [sign_wd al.lt, sign_wd (zL_al al (al_ones n)).lt] at e
    revert e
    cases s <;> cases decide ((((_ : Nat) : Int)) % 2 = 1) <;> decide
  rw [lz]
  congr 1
  have ez' := ez
  cases s
  · have h0 := of_decide_eq_false ez'
    apply decide_eq_decide.mpr
    show (((false.toNat + 1 + zS cs (List.replicate n 49) : Nat) : Int)) % 2 = 1 ↔ (((1 : Nat) : Int) + ((false.toNat : Nat) : Int)) % 2 = 1
    simp only [Bool.toNat_false] at h0 ⊢
    omega
  · have h0 := of_decide_eq_true ez'
    apply decide_eq_decide.mpr
    simp only [Bool.toNat_true] at h0 ⊢
    omega
section
variable {P : Program} {w : World} {K : PySem.W.Frag} {mg : Str → Option Value} {base : Heap}
theorem ok_lsize {f fY : Addr} {fd fdY : FuncData} (F : Fun K "_law_size" "_law_size" sLSize f fd) (FY : Fun K "_law_body" "_law_body" sLBody fY fdY) (bY : Binds K fdY ["_law_text_here"] []) (gY : mg "_law_body" = some (.ref fY)) (ms : mg "sorted" = none) (ml : mg "len" = none) :
    FnOk P w K mg base CX0 2 f fd ["_law_strings_in"] spLSize := by
  have GY : FnOk P w K mg base CX0 1 fY fdY ["_law_text_here"] spLBody := ok_lbody FY
  refine F.ok scLSize (fun vs H Q E h => ?_) (fun cdv A outer s H vs Q E hr h => ?_)
  · obtain ⟨d, n, rows, rfl, _⟩ := h
    rfl
  · obtain ⟨d, n, rows, rfl, t, q⟩ := h
    refine ⟨_, pss_cons (ps_for PassesOwn.never rfl (pi_list (pe_callB (call_sortedD rfl) (by rfl) ms (by decide +kernel) (pa_cons (pv 0) pa_nil))) (pg_name (i := 1) scLSize.nd rfl (.inl rfl))
        (pss_one (ps_ret (pe_callB call_len_str (by rfl) ml PySem.boot_len (pa_cons (pe_call GY hr (by rfl) gY FY.kp bY .nil pass0 (pa_cons (pe_dget (hu_of hr) (pv 0) (pv 1) (fun _ _ => rfl)) pa_nil)) pa_nil)))))
      (pss_one (ps_ret pe_int)), ?_⟩
    refine ⟨_, rfl, d, _, rows.map (fun r => txt [r.1]), rfl, .inl t.tbl.at_, keys_rows rows, by rw [List.length_map]; have := t.tbl.few; omega, fun ys p py _ np => ?_⟩
    refine ⟨p, rfl, ⟨_, SqL.of upd_same⟩, for_list (K := K) (a := p) (xs := ys.map V.str) (fun i σ H' => i = 0 ∧ σ = [some (.ref d), none] ∧ H' = upd H p (.lst (ys.map V.str))) ⟨rfl, rfl, rfl⟩ (fun i σ H' _ ⟨_, _, e⟩ => by rw [e]; exact SqL.of upd_same) ?_ ?_⟩
    · rintro i v σ H' hv ⟨rfl, rfl, rfl⟩
      obtain ⟨y, hy, rfl⟩ := List.mem_map.mp (List.mem_of_getElem? hv)
      obtain ⟨r, hr', rfl⟩ := List.mem_map.mp (py.mem_iff.mp hy)
      obtain ⟨x, hx⟩ := mem_lookup (List.mem_map.mpr ⟨r, hr', rfl⟩ : r.1 ∈ rows.map (·.1))
      have sn : Sn n x := t.tbl.all _ (lookup_mem hx)
      have look : valV (rowsK rows) (Sum.inr (txt [r.1])) = some (tv x) := by rw [rowsK_at, hx]; rfl
      have got : DGet (upd H p (.lst (ys.map V.str))) d (.str (txt [r.1])) (some (tv x)) := look ▸ DGet.k (k := Sum.inr (txt [r.1])) ((same_upd np) _ _ t.tbl.at_)
      have small := t.tbl.small
      have l1 := sn.len.1
      have l2 := sn.len.2.1
      refine ⟨_, rfl, _, rfl, d, _, rfl, got, x, rfl, by omega, _, rfl, ?_⟩
      have ne : rows.isEmpty = false := by
        cases rows with
        | nil => cases hr'
        | cons _ _ => rfl
      have e : sizeN n rows = n := by unfold sizeN; rw [ne]; rfl
      rw [txt_len, l2]
      rw [e] at q
      exact ⟨Nat.le_of_lt (small1000 (by omega)), q _ (same_upd np)⟩
    · rintro σ H' ⟨e0, rfl, rfl⟩
      rw [List.length_map, py.length_eq, List.length_map] at e0
      have e : rows = [] := List.length_eq_zero_iff.mp e0
      subst e
      exact q _ (same_upd np)
end


end T25

namespace T25
open PySem PySem.Spec PyProof.Rows L2 Tm
section
variable {P : Program} {w : World} {K : PySem.W.Frag} {mg : Str → Option Value} {base : Heap}
set_option maxHeartbeats 1000000 in
theorem ok_lvalue {f fZ fA fM fY : Addr} {fd fdZ fdA fdM fdY : FuncData} (F : Fun K "_law_value" "_law_value" sLValue f fd)
    (GZ : FnOk P w K mg base CX0 2 fZ fdZ ["_law_strings_in"] spLSize) (FZ : Fun K "_law_size" "_law_size" sLSize fZ fdZ) (bZ : Binds K fdZ ["_law_strings_in"] []) (gZ : mg "_law_size" = some (.ref fZ))
    (GA : FnOk P w K mg base CX0 3 fA fdA ["_law_strings_in", "_law_size_here"] (spTAll K)) (FA : Fun K "_law_times_all" "_law_times_all" sLTAll fA fdA) (bA : Binds K fdA ["_law_strings_in", "_law_size_here"] []) (gA : mg "_law_times_all" = some (.ref fA))
    (GM : FnOk P w K mg base CX0 2 fM fdM ["_law_first", "_law_last"] spTwo) (FM : Fun K "_law_times" "_law_times" sLTimes fM fdM) (bM : Binds K fdM ["_law_first", "_law_last"] []) (gM : mg "_law_times" = some (.ref fM))
    (FY : Fun K "_law_body" "_law_body" sLBody fY fdY) (bY : Binds K fdY ["_law_text_here"] []) (gY : mg "_law_body" = some (.ref fY)) :
    FnOk P w K mg base CX0 4 f fd ["_law_strings_in", "_law_text_here"] spLValue := by
  have GY : FnOk P w K mg base CX0 1 fY fdY ["_law_text_here"] spLBody := ok_lbody FY
  refine F.ok scLValue (fun vs H Q E h => ?_) (fun cdv A outer s H vs Q E hr h => ?_)
  · obtain ⟨d, n, rows, word, rfl, _⟩ := h
    rfl
  · obtain ⟨d, n, rows, word, rfl, t, lw, ll, good, q⟩ := h
    have hr1 : Room 1 _ := hr.mono (by decide)
    have hr2 : Room 2 _ := hr.mono (by decide)
    refine ⟨_, pss_cons (ps_set (i := 2) scLValue.nd rfl (.inl rfl) (pe_call GZ hr2 (by rfl) gZ FZ.kp bZ .nil pass0 (pa_cons (pv 0) pa_nil)))
      (pss_cons (ps_set (i := 3) scLValue.nd rfl (.inl rfl) (pe_call GA hr (by rfl) gA FA.kp bA .nil pass0 (pa_cons (pe_lc (own := [("_law_sign", 4)]) (g := gName 4) (tt := tYes) rfl scLValue.nd (pi_str (pe_call GY hr1 (by rfl) gY FY.kp bY .nil pass0 (pa_cons (pv 1) pa_nil))) (blkOk_by (own := [("_law_sign", 4)]) (N := ["_law_strings_in", "_law_text_here", "_law_size_here", "_law_found", "_law_sign"]) (sc := defScope sLValue) (by decide +kernel))
          (fun _ _ _ _ _ => pg_name (i := 4) scLValue.nd rfl (Or.inl rfl)) (fun _ _ _ _ _ => pts_nil) (fun _ _ _ _ _ => pe_dget (hu_of hr) (pv 0) (pv 4) (fun _ _ => rfl))) (pa_cons (pv 2) pa_nil))))
      (pss_one (ps_ret (pe_ifExp (pt_cmpR op_eq (pe_slice sl_str (pv 1) po_none (po_some pe_int)) pe_str (nomark _)) (pe_call GM hr2 (by rfl) gM FM.kp bM .nil pass0 (pa_cons (pv 3) (pa_cons (pe_op op_add_str pe_str (pe_op op_times pe_str (pv 2))) pa_nil))) (pv 3))))), ?_⟩
    have few : sizeN n rows ≤ 900 := by
      have := t.tbl.small
      unfold sizeN
      split
      · omega
      · exact this
    refine ⟨_, rfl, d, n, rows, rfl, t, fun H2 s2 => ?_⟩
    refine ⟨_, rfl, word, rfl, by omega, _, rfl, fun D nD => ?_⟩
    have hsz : (txt (lettersL word)).cps.size = (lettersL word).length := txt_len _
    refine lc_it (walk_str (z := txt (lettersL word))) (fun i J => Same H2 J ∧ J D = some (.lst ((strsOf rows ((lettersL word).take i)).map tv))) ⟨same_upd nD, upd_same⟩ (fun _ _ _ _ => trivial) ?_ ?_
    · rintro i v J J' hi ⟨sJ, hD⟩ ⟨rfl, c, hc, rfl⟩
      rw [hsz] at hi
      have ec := at_txt hc
      obtain ⟨x, hx⟩ := good c (List.mem_of_getElem? ec)
      have look : valV (rowsK rows) (Sum.inr (txt [c])) = some (tv x) := by rw [rowsK_at, hx]; rfl
      have got : DGet J' d (.str (txt [c])) (some (tv x)) := look ▸ DGet.k (k := Sum.inr (txt [c])) (sJ _ _ (s2 _ _ t.tbl.at_))
      refine ⟨rfl, ?_⟩
      refine ⟨_, rfl, _, rfl, d, _, rfl, got, _, hD, ?_, same_put sJ nD, ?_⟩
      · have := strs_len rows ((lettersL word).take i)
        rw [List.length_take] at this
        rw [List.length_map]
        exact small1000 (by omega)
      · rw [upd_same, List.take_succ, ec]
        unfold strsOf
        rw [List.filterMap_append, List.map_append]
        simp [hx]
    · rintro J ⟨sJ, hD⟩
      rw [hsz, List.take_length] at hD
      have sn := strs_sn t.tbl.all (lettersL word)
      have len := strs_len rows (lettersL word)
      refine ⟨_, rfl, sizeN n rows, D, strsOf rows (lettersL word), rfl, SqL.of hD, few, by omega, sn, fun H5 s5 => ?_⟩
      have ep : (strsOf rows (lettersL word)).foldl two (List.replicate (sizeN n rows) 49) = prodL n rows word := rfl
      have sp : Sn (sizeN n rows) (prodL n rows word) := Sn.fold (Sn.one _) sn
      have sA := (s2.trans sJ).trans s5
      have tz : (txt word).length ≤ sizeLine := by rw [txt_len]; exact Nat.le_of_lt (small1000 (by omega))
      refine ⟨_, rfl, 1, rfl, _, rfl, tz, rfl, _, rfl, ?_⟩
      rw [first_is]
      by_cases h : signL word = 1
      · rw [h]
        refine iteT ⟨_, rfl, _, rfl, 49, sizeN n rows, (by decide +kernel), rfl, by omega, _, _, rfl, rfl, ?_, ?_⟩
        · rw [txt_len, List.length_replicate]
          exact Nat.le_of_lt (small1000 (by show 1 + _ ≤ 1000; omega))
        refine ⟨sizeN n rows, prodL n rows word, 45 :: List.replicate (sizeN n rows) 49, ?_, few, sp, ⟨true, _, rfl, List.length_replicate, al_ones _⟩, fun H6 s6 => ?_⟩
        · have m : Str.ofString "-" = txt [45] := by decide +kernel
          rw [ep, m, txt_app]
          rfl
        · rw [two_minus sp]
          have e : valL n rows word = signedL (((1 : Nat) : Int) + ((signL (prodL n rows word) : Nat) : Int)) (lettersL (prodL n rows word)) := by unfold valL; rw [h]
          rw [← e]
          exact q _ (sA.trans s6)
      · have h0 : signL word = 0 := by
          cases word with
          | nil => rfl
          | cons c r =>
            by_cases hc : c = 45
            · exact absurd (if_pos hc) h
            · exact if_neg hc
        rw [h0]
        refine iteF ⟨_, rfl, ?_⟩
        rw [ep]
        have e : valL n rows word = prodL n rows word := by
          unfold valL
          rw [h0]
          have := sp.self
          simpa using this
        rw [← e]
        exact q _ sA
end


end T25

namespace T25
open PySem PySem.Spec PyProof.Rows L2 Tm
abbrev sLText : Stmt := topS 34
theorem scLText : FnScope ["_law_bag_here", "_law_raw", "_law_most", "_law_letters_here", "_law_size_here", "_law_k"] ["_law_bag_here", "_law_raw", "_law_most"] (defScope sLText) := ⟨rfl, rfl, rfl, by decide +kernel, rfl, by decide +kernel, by decide +kernel⟩
abbrev sKeys : Stmt := topS 41
theorem scKeys : FnScope ["_law_bag_here", "_law_things", "_law_key"] ["_law_bag_here", "_law_things"] (defScope sKeys) := ⟨rfl, rfl, rfl, by decide +kernel, rfl, by decide +kernel, by decide +kernel⟩
section
variable {P : Program} {w : World} {K : PySem.W.Frag} {mg : Str → Option Value} {base : Heap}
set_option maxHeartbeats 1000000 in
theorem ok_ltext {f fP fO fS : Addr} {fd fdP fdO fdS : FuncData} (F : Fun K "_law_text" "_law_text" sLText f fd) (FP : Fun K "_law_pull" "_law_pull" sPull fP fdP) (bP : Binds K fdP ["_law_bag_here", "_law_many"] []) (gP : mg "_law_pull" = some (.ref fP))
    (FO : Fun K "_law_of" "_law_of" sOf fO fdO) (bO : Binds K fdO ["_law_bag_here", "_law_things"] []) (gO : mg "_law_of" = some (.ref fO)) (FS : Fun K "_law_signed" "_law_signed" sLSigned fS fdS) (bS : Binds K fdS ["_law_mturned", "_law_body_here"] []) (gS : mg "_law_signed" = some (.ref fS))
    (ml : mg "len" = none) (mr : mg "range" = none) (ms : mg "sorted" = none) : FnOk P w K mg base CX0 3 f fd ["_law_bag_here", "_law_raw", "_law_most"] spText := by
  have GP : FnOk P w K mg base CX0 1 fP fdP ["_law_bag_here", "_law_many"] spPull := ok_pull FP ml
  have GO : FnOk P w K mg base CX0 2 fO fdO ["_law_bag_here", "_law_things"] (spOf K) := ok_of FO FP bP gP ml
  have GS : FnOk P w K mg base CX0 1 fS fdS ["_law_mturned", "_law_body_here"] spLSigned := ok_lsigned FS
  refine F.ok scLText (fun vs H Q E h => ?_) (fun cdv A outer s H vs Q E hr h => ?_)
  · obtain ⟨b, l, r, m, d, n, most, rows, rfl, _⟩ := h
    rfl
  · obtain ⟨b, l, r, m, d, n, most, rows, rfl, B0, hr0, t, hmost, q⟩ := h
    have hr1 : Room 1 _ := hr.mono (by decide)
    refine ⟨_, pss_cons (ps_set (i := 3) scLText.nd rfl (.inr rfl) (pe_callB (call_sortedD rfl) (by rfl) ms (by decide +kernel) (pa_cons (pe_ix ix_tup (pv 1) pe_int (fun _ _ => rfl)) pa_nil)))
      (pss_cons (ps_set (i := 4) scLText.nd rfl (.inl rfl) (pe_ifExp (pt_cmpR (op_neD hr.units) (pv 3) (pe_lst pa_nil) (nomark _)) (pe_call GP hr1 (by rfl) gP FP.kp bP .nil pass0 (pa_cons (pv 0) (pa_cons (pe_op op_add (pv 2) pe_int) pa_nil))) pe_int))
      (pss_one (ps_ret (pe_call GS hr1 (by rfl) gS FS.kp bS .nil pass0 (pa_cons (pe_call GP hr1 (by rfl) gP FP.kp bP .nil pass0 (pa_cons (pv 0) (pa_cons pe_int pa_nil))) (pa_cons (pe_join pe_str (pe_lc (own := [("_law_k", 5)]) (g := gName 5) (tt := tYes) rfl scLText.nd (pi_range1 (by rfl) mr (pa_cons (pv 4) pa_nil)) (blkOk_by (own := [("_law_k", 5)]) (N := ["_law_bag_here", "_law_raw", "_law_most", "_law_letters_here", "_law_size_here", "_law_k"]) (sc := defScope sLText) (by decide +kernel))
        (fun _ _ _ _ _ => pg_name (i := 5) scLText.nd rfl (Or.inl rfl)) (fun _ _ _ _ _ => pts_nil) (fun _ _ _ _ _ => (pe_call GO hr (by rfl) gO FO.kp bO .nil pass0 (pa_cons (pv 0) (pa_cons (pv 3) pa_nil)))))) pa_nil)))))), ?_⟩
    refine ⟨_, rfl, r, _, 1, .ref d, rfl, rfl, .inl (.inl hr0), rfl, d, _, rows.map (fun r => txt [r.1]), rfl, .inl t.tbl.at_, keys_rows rows, by rw [List.length_map]; have := t.tbl.few; omega, fun ys p py _ np => ?_⟩
    have B1 : Bag (upd H p (.lst (ys.map V.str))) b l := B0.new np
    have npb : p ≠ b := B0.nb np
    have hp : (upd H p (.lst (ys.map V.str))) p = some (.lst (ys.map V.str)) := upd_same
    have k1 : Kp b H (upd H p (.lst (ys.map V.str))) := Kp.new np
    generalize upd H p (.lst (ys.map V.str)) = H1 at B1 hp k1 ⊢
    have keys : ∀ y ∈ ys, ∃ c, y = txt [c] ∧ c ∈ rows.map (·.1) ∧ c ∈ alpha := by
      intro y hy
      obtain ⟨r', hr', rfl⟩ := List.mem_map.mp (py.mem_iff.mp hy)
      exact ⟨r'.1, rfl, List.mem_map.mpr ⟨r', hr', rfl⟩, t.abc r' hr'⟩
    have many : ys.length ≤ 30 := by rw [py.length_eq, List.length_map]; exact t.tbl.few
    have okS : ∀ z ∈ ys, PyData.strOk z = true := by
      intro z hz
      obtain ⟨c, rfl, _, hc⟩ := keys z hz
      exact strOk_sig hc
    refine ⟨_, rfl, Nat.zero_le _, fun e0 ne0 => ⟨_, _, .lst (SqL.of ((same_upd ne0) _ _ hp)) (dp_texts ys), .lst (SqL.of upd_same) .nil, shaped_texts okS, by decide, _, rfl, ?_⟩⟩
    have B2 : Bag (upd H1 e0 (.lst [])) b l := B1.new ne0
    have hp2 : (upd H1 e0 (.lst [])) p = some (.lst (ys.map V.str)) := (same_upd ne0) _ _ hp
    have k2 := k1.trans (Kp.new (b := b) (o := .lst []) ne0)
    generalize upd H1 e0 (.lst []) = H2 at B2 hp2 k2 ⊢
    have eqvE : ys ≠ [] → PyData.eqv (.list (ys.map PyData.str)) (.list []) = false := by
      intro ne
      cases ys with
      | nil => exact absurd rfl ne
      | cons y r => rfl
    by_cases hys : ys = []
    · subst hys
      refine iteF ?_
      have B3 := B2
      have k3 := k2
      have hp3 := hp2
      have full : ∀ j : Nat, j < (0 : Int).toNat → 0 < (([] : List Str).map V.str).length := fun j h => absurd h (Nat.not_lt_zero j)
      refine ⟨_, rfl, b, l, 2, rfl, B3, by decide, by decide, fun J dj kj BJ dj0 dj1 => ?_⟩
      refine ⟨⟨_, rfl⟩, _, rfl, _, rfl, by omega, by omega, fun D nD => ?_⟩
      have nDb : D ≠ b := BJ.nb nD
      have hpJ := kj _ _ npb hp3
      refine lc_range (lo := 0) (n := (0 : Int).toNat) (fun i H' => Kp b J H' ∧ Bag H' b l ∧ ∃ cs : List Nat, H' D = some (.lst (cs.map sig)) ∧ cs.length = i ∧ ∀ c ∈ cs, c ∈ rows.map (·.1))
        ⟨Kp.new nD, BJ.new nD, [], upd_same, rfl, fun c hc => absurd hc List.not_mem_nil⟩ ?_ ?_
      · rintro j H' hj ⟨kp, B', cs, hD, hlen, hmem⟩
        refine ⟨rfl, ?_⟩
        refine ⟨_, rfl, _, rfl, b, l, _, ([] : List Str).map V.str, rfl, B', .inl ⟨p, rfl, npb, SqL.of (kp _ _ npb hpJ)⟩, full j hj, by rw [List.length_map]; omega, fun H4 x kp4 B4 hx => ?_⟩
        obtain ⟨y, hy, rfl⟩ := List.mem_map.mp hx
        obtain ⟨c, rfl, hc, _⟩ := keys y hy
        refine ⟨_, kp4 _ _ nDb hD, by rw [List.length_map, hlen]; exact small1000 (by omega), (kp.trans kp4).put nD, B4.put nDb (BJ.nl nD), cs ++ [c], ?_, by rw [List.length_append, hlen]; rfl, ?_⟩
        · rw [upd_same, List.map_append]
          rfl
        · intro c2 h2
          rcases List.mem_append.mp h2 with h2 | h2
          · exact hmem _ h2
          · rw [List.mem_singleton.mp h2]; exact hc
      rintro H7 ⟨k7, B7, cs, hD7, hcl, hcm⟩
      have hu : H7 D = some (.lst ((cs.map fun c => txt [c]).map V.str)) := by
        rw [hD7, List.map_map]
        rfl
      have cap : cs.length ≤ most := by rw [hcl]; exact Nat.zero_le _
      refine ⟨Str.ofString "", D, cs.map (fun c => txt [c]), rfl, rfl, .inl (SqL.of hu), ?_, ?_⟩
      · rw [len_ones, txt_empty, txt_len]; simp; omega
      rw [join_sigs]
      refine ⟨_, cs, rfl, small1000 (by omega), ?_⟩
      rw [signed_wd]
      exact q H7 _ (k3.trans (kj.trans k7)) B7 ⟨_, cs, rfl, cap, hcm⟩
    · rw [eqvE hys]
      refine iteT ⟨_, rfl, _, rfl, _, _, rfl, rfl, b, l, _, rfl, B2, by omega, by omega, fun H3 d3 k23 B3 d0 d1 => ?_⟩
      have hp3 := k23 _ _ npb hp2
      have k3 := k2.trans k23
      have full : ∀ j : Nat, j < d3.toNat → 0 < (ys.map V.str).length := fun j _ => by rw [List.length_map]; exact List.length_pos_iff.mpr hys
      refine ⟨_, rfl, b, l, 2, rfl, B3, by decide, by decide, fun J dj kj BJ dj0 dj1 => ?_⟩
      refine ⟨⟨_, rfl⟩, _, rfl, _, rfl, by omega, by omega, fun D nD => ?_⟩
      have nDb : D ≠ b := BJ.nb nD
      have hpJ := kj _ _ npb hp3
      refine lc_range (lo := 0) (n := d3.toNat) (fun i H' => Kp b J H' ∧ Bag H' b l ∧ ∃ cs : List Nat, H' D = some (.lst (cs.map sig)) ∧ cs.length = i ∧ ∀ c ∈ cs, c ∈ rows.map (·.1))
        ⟨Kp.new nD, BJ.new nD, [], upd_same, rfl, fun c hc => absurd hc List.not_mem_nil⟩ ?_ ?_
      · rintro j H' hj ⟨kp, B', cs, hD, hlen, hmem⟩
        refine ⟨rfl, ?_⟩
        refine ⟨_, rfl, _, rfl, b, l, _, ys.map V.str, rfl, B', .inl ⟨p, rfl, npb, SqL.of (kp _ _ npb hpJ)⟩, full j hj, by rw [List.length_map]; omega, fun H4 x kp4 B4 hx => ?_⟩
        obtain ⟨y, hy, rfl⟩ := List.mem_map.mp hx
        obtain ⟨c, rfl, hc, _⟩ := keys y hy
        refine ⟨_, kp4 _ _ nDb hD, by rw [List.length_map, hlen]; exact small1000 (by omega), (kp.trans kp4).put nD, B4.put nDb (BJ.nl nD), cs ++ [c], ?_, by rw [List.length_append, hlen]; rfl, ?_⟩
        · rw [upd_same, List.map_append]
          rfl
        · intro c2 h2
          rcases List.mem_append.mp h2 with h2 | h2
          · exact hmem _ h2
          · rw [List.mem_singleton.mp h2]; exact hc
      rintro H7 ⟨k7, B7, cs, hD7, hcl, hcm⟩
      have hu : H7 D = some (.lst ((cs.map fun c => txt [c]).map V.str)) := by
        rw [hD7, List.map_map]
        rfl
      have cap : cs.length ≤ most := by rw [hcl]; omega
      refine ⟨Str.ofString "", D, cs.map (fun c => txt [c]), rfl, rfl, .inl (SqL.of hu), ?_, ?_⟩
      · rw [len_ones, txt_empty, txt_len]; simp; omega
      rw [join_sigs]
      refine ⟨_, cs, rfl, small1000 (by omega), ?_⟩
      rw [signed_wd]
      exact q H7 _ (k3.trans (kj.trans k7)) B7 ⟨_, cs, rfl, cap, hcm⟩
end


end T25

/-! The drawn webs of the laws: their data. -/
namespace Tm
open PySem PySem.Spec PyProof.Rows L2

/-! ### what a drawn web is: marks by node, ends by letter -/
def marksK (ms : List (Int × Int)) : List (Key × V) := ms.map fun m => (Sum.inl m.1, V.int m.2)
/-- letter, address of its pair, lesser end, greater end -/
structure Edg where
  letter : Nat
  pair : Addr
  lo : Int
  hi : Int
def endsK (es : List Edg) : List (Key × V) := es.map fun e => (Sum.inr (txt [e.letter]), V.ref e.pair)
structure RawOk (H : Hp) (ms : List (Int × Int)) (es : List Edg) : Prop where
  rise : (ms.map (·.1)).Pairwise (· < ·)
  node : ∀ m ∈ ms, 0 ≤ m.1 ∧ m.1 < 12
  mark : ∀ m ∈ ms, m.2 = 0 ∨ m.2 = 1
  risE : (es.map (·.letter)).Pairwise (· < ·)
  name : ∀ e ∈ es, e.letter ∈ alpha
  pair : ∀ e ∈ es, H e.pair = some (.tup [.int e.lo, .int e.hi])
  less : ∀ e ∈ es, e.lo < e.hi
  ends : ∀ e ∈ es, e.lo ∈ ms.map (·.1) ∧ e.hi ∈ ms.map (·.1)
/-- a drawn web: a tuple of two dicts -/
def RawAt (H : Hp) (t : Addr) (ms : List (Int × Int)) (es : List Edg) : Prop :=
  ∃ dm de : Addr, H t = some (.tup [.ref dm, .ref de]) ∧ H dm = some (.dK (marksK ms)) ∧ H de = some (.dK (endsK es)) ∧ RawOk H ms es
def spRaw : Sp := fun vs H Q _ => ∃ (b l : Addr) (wide many : Int), vs = [.ref b, .int wide, .int many] ∧ Bag H b l ∧ 0 ≤ wide ∧ wide ≤ 12 ∧ 0 ≤ many ∧ many ≤ 24 ∧
  ∀ H' t ms es, Kp b H H' → Bag H' b l → RawAt H' t ms es → Q (.ref t) H'

/-! ### rising lists -/
theorem rise_lt {ns : List Int} (h : ns.Pairwise (· ≤ ·)) (nd : ns.Nodup) : ns.Pairwise (· < ·) := by
  induction ns with
  | nil => exact .nil
  | cons n r ih =>
    rcases List.pairwise_cons.mp h with ⟨h1, h2⟩
    rcases List.nodup_cons.mp nd with ⟨n1, n2⟩
    refine List.pairwise_cons.mpr ⟨fun m hm => ?_, ih h2 n2⟩
    have a := h1 m hm
    have c : n ≠ m := fun e => n1 (e ▸ hm)
    omega
theorem rise_get {ns : List Int} (h : ns.Pairwise (· < ·)) {i j : Nat} (hi : i < ns.length) (hj : j < ns.length) (hij : i < j) : ns[i] < ns[j] := List.pairwise_iff_getElem.mp h i j hi hj hij
/-- merging pairs with new keys only appends them -/
theorem valV_fresh {kvs : List (Key × V)} {k : Key} (h : k ∉ kvs.map (·.1)) : valV kvs k = none := by
  induction kvs with
  | nil => rfl
  | cons p r ih =>
    have h1 : ¬ p.1 = k := fun e => h (by rw [List.map_cons, e]; exact List.mem_cons_self)
    rw [valV_neg h1]
    exact ih fun m => h (by rw [List.map_cons]; exact List.mem_cons_of_mem _ m)
theorem merge_fresh : ∀ (more kvs : List (Key × V)), ((kvs ++ more).map (·.1)).Nodup → mergeK kvs more = kvs ++ more
  | [], kvs, _ => (List.append_nil kvs).symm
  | p :: r, kvs, h => by
    have h0 : p.1 ∉ kvs.map (·.1) := fun m => by
      rw [List.map_append, List.map_cons] at h
      exact (List.nodup_append.mp h).2.2 _ m _ List.mem_cons_self rfl
    have e : kvs ++ p :: r = (kvs ++ [p]) ++ r := by rw [List.append_assoc]; rfl
    show mergeK (putK kvs p.1 p.2) r = _
    rw [putK_new p.2 (valV_fresh h0)]
    show mergeK (kvs ++ [p]) r = _
    rw [e] at h ⊢
    exact merge_fresh r (kvs ++ [p]) h

/-! ### letters in their order -/
theorem up_letters : ∀ (cs : List Nat) (c : Nat), risingS (txt [c]) (cs.map fun d => txt [d]) = true → (c :: cs).Pairwise (· ≤ ·)
  | [], c, _ => List.pairwise_singleton _ _
  | d :: r, c, h => by
    have h' : (!ltCps [d] [c] && risingS (txt [d]) (r.map fun e => txt [e])) = true := h
    rcases Bool.and_eq_true_iff.mp h' with ⟨g1, g2⟩
    have rest := up_letters r d g2
    have cd : c ≤ d := by
      have g3 : ltCps [d] [c] = false := by simpa using g1
      have g4 : (decide (d < c) || (d == c && ltCps [] [])) = false := g3
      have g5 : decide (d < c) = false := (Bool.or_eq_false_iff.mp g4).1
      have g6 := of_decide_eq_false g5
      omega
    refine List.pairwise_cons.mpr ⟨fun e he => ?_, rest⟩
    rcases List.mem_cons.mp he with q | q
    · omega
    · exact Nat.le_trans cd ((List.pairwise_cons.mp rest).1 e q)
theorem letters_rise {cs : List Nat} (h : sortedS (cs.map fun d => txt [d]) = true) (nd : cs.Nodup) : cs.Pairwise (· < ·) := by
  have up : cs.Pairwise (· ≤ ·) := by
    cases cs with
    | nil => exact .nil
    | cons c r => exact up_letters r c h
  refine up.imp_of_mem (fun {a b} ha hb hab => hab) |>.and nd |>.imp fun {a b} hab => ?_
  have := hab.1
  have := hab.2
  omega
theorem perm_letters {ys : List Str} {cs : List Nat} (h : ys.Perm (cs.map fun d => txt [d])) : ∃ ds : List Nat, ys = ds.map (fun d => txt [d]) ∧ ds.Perm cs := by
  refine ⟨ys.map fun y => y.cps.toList.headD 0, ?_, ?_⟩
  · have back : ∀ y ∈ ys, txt [y.cps.toList.headD 0] = y := fun y hy => by
      obtain ⟨c, _, rfl⟩ := List.mem_map.mp (h.mem_iff.mp hy)
      rfl
    rw [List.map_map]
    exact ((List.map_congr_left back).trans (List.map_id' ys)).symm
  · have h2 := h.map fun y => y.cps.toList.headD 0
    rw [List.map_map] at h2
    have e : ((fun y : Str => y.cps.toList.headD 0) ∘ fun d => txt [d]) = id := funext fun c => rfl
    rw [e, List.map_id] at h2
    exact h2
theorem perm_ints {ys : List V} {ns : List Int} (h : ys.Perm (ns.map V.int)) : ∃ ks : List Int, ys = ks.map V.int ∧ ks.Perm ns := by
  refine ⟨ys.map fun y => match y with | .int i => i | _ => 0, ?_, ?_⟩
  · have back : ∀ y ∈ ys, V.int (match y with | .int i => i | _ => 0) = y := fun y hy => by
      obtain ⟨c, _, rfl⟩ := List.mem_map.mp (h.mem_iff.mp hy)
      rfl
    rw [List.map_map]
    exact ((List.map_congr_left back).trans (List.map_id' ys)).symm
  · have h2 := h.map fun y => match y with | V.int i => i | _ => 0
    rw [List.map_map] at h2
    have e : ((fun y : V => match y with | .int i => i | _ => 0) ∘ V.int) = id := funext fun c => rfl
    rw [e, List.map_id] at h2
    exact h2
def twelve : List Int := [0, 1, 2, 3, 4, 5, 6, 7, 8, 9, 10, 11]
theorem rg12 : rgV 0 12 = twelve.map V.int := rfl
theorem twelve_mem {n : Int} (h : n ∈ twelve) : 0 ≤ n ∧ n < 12 := by
  simp only [twelve, List.mem_cons, List.not_mem_nil, or_false] at h
  omega
theorem alpha_nodup : alpha.Nodup := by decide
theorem twelve_nodup : twelve.Nodup := by decide
theorem gname {i : Nat} {v : V} {σ : L2.St} {H : Hp} {Q : L2.St → Hp → Prop} (h : Q (σ.set i (some v)) H) : gName i v σ H Q := h

/-! ### what the checks of a web promise, of a web that is one -/
def MarksOk (ms : List (Int × Int)) : Prop := (ms.map (·.1)).Nodup ∧ ms.length < 64 ∧ (∀ m ∈ ms, 0 ≤ m.1 ∧ m.1 < 12) ∧ ∀ m ∈ ms, m.2 = 0 ∨ m.2 = 1
/-- letter, address, and the two ends as they stand in the pair -/
def EdgesOk (H : Hp) (ms : List (Int × Int)) (es : List Edg) : Prop := (es.map (·.letter)).Nodup ∧ es.length < 64 ∧ (∀ e ∈ es, e.letter ∈ alpha) ∧
  ∀ e ∈ es, H e.pair = some (.tup [.int e.lo, .int e.hi]) ∧ e.lo ≠ e.hi ∧ e.lo ∈ ms.map (·.1) ∧ e.hi ∈ ms.map (·.1)
theorem EdgesOk.same {H H' : Hp} {ms : List (Int × Int)} {es : List Edg} (h : EdgesOk H ms es) (s : Same H H') : EdgesOk H' ms es :=
  ⟨h.1, h.2.1, h.2.2.1, fun e he => ⟨s _ _ (h.2.2.2 e he).1, (h.2.2.2 e he).2⟩⟩
def spIsNode : Sp := fun vs H Q _ => ∃ n : Int, vs = [.int n] ∧ 0 ≤ n ∧ n < 12 ∧ Q (.bl true) H
def spIsMark : Sp := fun vs H Q _ => ∃ n : Int, vs = [.int n] ∧ (n = 0 ∨ n = 1) ∧ ∀ H', Same H H' → Q (.bl true) H'
def spIsName : Sp := fun vs H Q _ => ∃ c : Nat, vs = [.str (txt [c])] ∧ c ∈ alpha ∧ Q (.bl true) H
def spJoins : Sp := fun vs H Q _ => ∃ (dm p : Addr) (ms : List (Int × Int)) (x y : Int), vs = [.ref dm, .ref p] ∧ H dm = some (.dK (marksK ms)) ∧ H p = some (.tup [.int x, .int y]) ∧ x ≠ y ∧ x ∈ ms.map (·.1) ∧ y ∈ ms.map (·.1) ∧ Q (.bl true) H
def spChkM : Sp := fun vs H Q _ => ∃ (dm : Addr) (ms : List (Int × Int)), vs = [.ref dm] ∧ H dm = some (.dK (marksK ms)) ∧ MarksOk ms ∧ ∀ H', Same H H' → Q .non H'
def spChkE : Sp := fun vs H Q _ => ∃ (dm de : Addr) (ms : List (Int × Int)) (es : List Edg), vs = [.ref dm, .ref de] ∧ H dm = some (.dK (marksK ms)) ∧ H de = some (.dK (endsK es)) ∧ EdgesOk H ms es ∧ ∀ H', Same H H' → Q .non H'
theorem keysM (ms : List (Int × Int)) : (marksK ms).map (·.1) = (ms.map (·.1)).map Sum.inl := by
  unfold marksK
  rw [List.map_map, List.map_map]
  rfl
theorem keysE (es : List Edg) : (endsK es).map (·.1) = (es.map fun e => txt [e.letter]).map Sum.inr := by
  unfold endsK
  rw [List.map_map, List.map_map]
  rfl
/-- what a dict gives under a key that it has once -/
theorem valV_mem {kvs : List (Key × V)} {k : Key} {v : V} (nd : (kvs.map (·.1)).Nodup) (h : (k, v) ∈ kvs) : valV kvs k = some v := by
  induction kvs with
  | nil => cases h
  | cons p r ih =>
    rw [List.map_cons] at nd
    rcases List.nodup_cons.mp nd with ⟨n1, n2⟩
    rcases List.mem_cons.mp h with e | e
    · subst e
      exact valV_pos rfl
    · have ne : ¬ p.1 = k := fun z => n1 (by rw [z]; exact List.mem_map.mpr ⟨(k, v), e, rfl⟩)
      rw [valV_neg ne]
      exact ih n2 e
theorem mark_at {ms : List (Int × Int)} (nd : (ms.map (·.1)).Nodup) {n x : Int} (h : (n, x) ∈ ms) : valV (marksK ms) (Sum.inl n) = some (.int x) := by
  refine valV_mem ?_ (List.mem_map.mpr ⟨(n, x), h, rfl⟩)
  rw [keysM]
  exact List.pairwise_map.mpr (nd.imp fun hac he => hac (Sum.inl.inj he))
theorem mark_some {ms : List (Int × Int)} {n : Int} (h : n ∈ ms.map (·.1)) : ∃ v, valV (marksK ms) (Sum.inl n) = some v := by
  induction ms with
  | nil => cases h
  | cons m r ih =>
    by_cases e : m.1 = n
    · exact ⟨_, valV_pos (p := ((Sum.inl m.1 : Key), V.int m.2)) (congrArg Sum.inl e)⟩
    · rw [List.map_cons] at h
      rcases List.mem_cons.mp h with q | q
      · exact absurd q.symm e
      · obtain ⟨v, hv⟩ := ih q
        refine ⟨v, ?_⟩
        have ne : ¬ ((Sum.inl m.1 : Key) = Sum.inl n) := fun z => e (Sum.inl.inj z)
        show valV (((Sum.inl m.1 : Key), V.int m.2) :: marksK r) (Sum.inl n) = some v
        rw [valV_neg (p := ((Sum.inl m.1 : Key), V.int m.2)) ne]
        exact hv
theorem end_at {es : List Edg} (nd : (es.map (·.letter)).Nodup) {e : Edg} (h : e ∈ es) : valV (endsK es) (Sum.inr (txt [e.letter])) = some (.ref e.pair) := by
  refine valV_mem ?_ (List.mem_map.mpr ⟨e, h, rfl⟩)
  have q : (endsK es).map (·.1) = (es.map (·.letter)).map fun c => (Sum.inr (txt [c]) : Key) := by
    unfold endsK
    rw [List.map_map, List.map_map]
    rfl
  rw [q]
  exact List.pairwise_map.mpr (nd.imp fun hac he => hac (List.head_eq_of_cons_eq (txt_inj (Sum.inr.inj he))))
end Tm

/-! sorted(t), t a tuple of whole numbers: collect, a new list, its sort. -/
namespace Tm
open PySem PySem.Spec PySem.Calls PyProof.Rows L2
theorem call_sortedTup {X : Cx} : CallR X (.builtin "sorted") (fun given H Q => ∃ (t : Addr) (ns : List Int), given = [.ref t] ∧ SqT X.K H t (ns.map V.int) ∧ ns.length < 64 ∧
    ∀ (up : List Int) (p : Addr), up.Perm ns → up.Pairwise (· ≤ ·) → H p = none → Q (.ref p) (upd H p (.lst (up.map V.int)))) :=
  fun pins s σ H given held Q inv rel ask => by
    rcases ask with ⟨t, ns, rfl, stands, few, hand⟩
    match held, rel with
    | [_], .cons rfl .nil =>
      obtain ⟨cells, same, ⟨ob, got, isTup, ver, dat⟩, _⟩ := inv.tuple stands
      have num : cells.length = ns.length := by rw [← same.length, List.length_map]
      have room : cells.length ≤ sizeLine := by rw [num]; exact small64 few
      apply call_function_entry kind_sorted plain_sorted entry_sorted (args_sorted1 _)
      show wpAny _ _ (collect (.ref t) >>= fun vs => newList vs >>= fun l => holding [l] (call (.builtin "list.sort") [l] []) >>= fun _ => ret l) _ _ s
      apply wpAny_bind
      apply wpAny_collect_seq t (.inr rfl) got isTup dat (hsz := by rw [List.size_toArray]; exact room)
      intro heap kept
      have mid : Inv X pins σ H { s with heap := heap } := inv.kept (t' := s.toks) kept
      apply wpAny_bind
      apply wpAny_newList (hsz := by simpa using room)
      have new : (heap.push { cls := .type "list", data := .seq (cells.toArray.toList).toArray }).get? heap.objs.size = some (seqObj "list" cells.toArray 0) := Heap.get?_push_size _ rfl
      have still : ∀ b o, heap.get? b = some o → (heap.push { cls := .type "list", data := .seq (cells.toArray.toList).toArray }).get? b = some o := fun b o e => Heap.get?_push_of_some _ e
      have bigger : heap.objs.size < (heap.push { cls := .type "list", data := .seq (cells.toArray.toList).toArray }).objs.size := Heap.lt_size new
      apply wpAny_bind
      apply wpAny_holding
      refine wpAny_call_entry (T := "list") slot_list_sort ⟨_, new, rfl⟩ entry_list_sort ?_ (args_list_sort _)
      refine list_sort_tree new (Vals.ints same) (by rw [num]; exact few) fun out up whole perm rise => ?_
      refine ⟨_, rfl, wpAny_pure ⟨_, rfl, V.ref heap.objs.size, upd H heap.objs.size (.lst (up.map V.int)), ?_, rfl, hand up _ perm rise (mid.hok.fresh (Nat.le_refl _))⟩⟩
      obtain ⟨stamp, there⟩ := sortedHeap_at (out := out) new
      refine mid.laid (t' := s.toks) (fun b o e => ?_) (Nat.le_refl _) ⟨?_, out.toList, stamp, vals_of_ints whole, there⟩
      · rw [sortedHeap_old (Nat.ne_of_lt (Heap.lt_size e)) (Nat.lt_trans (Heap.lt_size e) bigger)]
        exact still b o e
      · rw [List.length_map, perm.length_eq]
        exact small64 few
end Tm

/-! Webs as they stand in memory. -/
namespace Tm
open PySem PySem.Spec PyProof.Rows L2

/-- a dict comprehension over anything that is walked: the reading of one whose walk J stands already -/
theorem dc_walk {J : It} {n : Nat} {G : Hp → Prop} {Y : Nat → Hp → V → Hp → Prop} (w : Walk J n G Y) {g : TG} {tt : TT} {tk tv : TE} {vs : List Nat} {σ : L2.St} {H1 : Hp} {Q : VK} (Pv : Addr → Nat → Hp → Prop)
    (start : ∀ D, H1 D = none → Pv D 0 (upd H1 D (.dK []))) (hG : ∀ D i H, i ≤ n → Pv D i H → G H)
    (turn : ∀ D i x H H', H1 D = none → i < n → Pv D i H → Y i H x H' → g x (wipe σ vs) H' fun σ2 H2 => wipe σ2 vs = wipe σ vs ∧ tt σ2 H2 fun b H3 => if b = true then (tk σ2 H3 fun y H4 => tv σ2 H4 fun z H5 =>
      ∃ kvs k, y = kV k ∧ H5 D = some (.dK kvs) ∧ kvs.length < sizeLine ∧ Pv D (i + 1) (upd H5 D (.dK (putK kvs k z)))) else Pv D (i + 1) H3)
    (done : ∀ D H, H1 D = none → Pv D n H → Q (.ref D) H) : tDc (fun _ H R => R J H) g tt tk tv vs σ H1 Q := by
  intro D fresh
  refine ⟨fun i m H => i + m = n ∧ Pv D i H, ⟨n, Nat.zero_add n, start D fresh⟩, ?_⟩
  intro i m H here
  cases m with
  | zero =>
    have last : i = n := here.1
    subst last
    exact .inl ⟨w.stops H (hG D i H (Nat.le_refl i) here.2), done D H fresh here.2⟩
  | succ k =>
    have lt : i < n := by have := here.1; omega
    have g0 := hG D i H (Nat.le_of_lt lt) here.2
    exact .inr ⟨w.goes i H lt g0, Pv D (i + 1), fun H' p => ⟨k, Nat.lt_succ_self k, by have := here.1; omega, p⟩, fun x H' y => turn D i x H H' fresh lt here.2 (w.yields i H x H' lt g0 y)⟩

/-! ### the fields -/
theorem ne_mp : ¬ (("marks" : Str) = "pairs") := by decide +kernel
theorem ne_ms : ¬ (("marks" : Str) = "stars") := by decide +kernel
theorem ne_ps : ¬ (("pairs" : Str) = "stars") := by decide +kernel
def webF (a1 a2 a3 : Addr) : List (Str × V) := putF "stars" (.ref a3) (putF "pairs" (.ref a2) (putF "marks" (.ref a1) []))
theorem webF_marks (a1 a2 a3 : Addr) : (webF a1 a2 a3).lookup ("marks" : Str) = some (.ref a1) := by
  unfold webF
  rw [lookup_putF, if_neg ne_ms, lookup_putF, if_neg ne_mp, lookup_putF, if_pos rfl]
theorem webF_pairs (a1 a2 a3 : Addr) : (webF a1 a2 a3).lookup ("pairs" : Str) = some (.ref a2) := by
  unfold webF
  rw [lookup_putF, if_neg ne_ps, lookup_putF, if_pos rfl]
theorem webF_stars (a1 a2 a3 : Addr) : (webF a1 a2 a3).lookup ("stars" : Str) = some (.ref a3) := by
  unfold webF
  rw [lookup_putF, if_pos rfl]
/-- the letters of the edges at a node -/
def star (es : List Edg) (n : Int) : List Nat := (es.filter fun e => decide (e.lo = n ∨ e.hi = n)).map (·.letter)
def starsK (ms : List (Int × Int)) (es : List Edg) : List (Key × V) := ms.map fun m => (Sum.inl m.1, V.str (txt (star es m.1)))
def WebAt (C : Addr) (H : Hp) (x : Addr) (ms : List (Int × Int)) (es : List Edg) : Prop :=
  ∃ dx a1 a2 a3 : Addr, H x = some (.ins C dx (webF a1 a2 a3)) ∧ H a1 = some (.dK (marksK ms)) ∧ H a2 = some (.dK (endsK es)) ∧ H a3 = some (.dK (starsK ms es)) ∧ RawOk H ms es
/-- what a web made of these dicts holds: the same nodes and marks, the same edges, each pair rising -/
def Made (ms ms' : List (Int × Int)) (es es' : List Edg) : Prop :=
  ms'.Perm ms ∧ (es'.map fun e => (e.letter, e.lo, e.hi)).Perm (es.map fun e => (e.letter, min e.lo e.hi, max e.lo e.hi))
def spWInit (C : Addr) : Sp := fun vs H Q _ => ∃ (x dx dm de : Addr) (ms : List (Int × Int)) (es : List Edg), vs = [.ref x, .ref dm, .ref de] ∧ H x = some (.ins C dx []) ∧ H dm = some (.dK (marksK ms)) ∧ H de = some (.dK (endsK es)) ∧
  MarksOk ms ∧ EdgesOk H ms es ∧ ∀ H' ms' es', Kp x H H' → WebAt C H' x ms' es' → Made ms ms' es es' → Q .non H'

/-! ### tuple(list) and sorted(tuple) of things that stand in the heap: rules that name no written part -/
theorem tupNew {X : Cx} : CallR X (.type "tuple") (fun given H Q => ∃ p ys, given = [.ref p] ∧ H p = some (.lst ys) ∧ ∀ l, H l = none → Q (.ref l) (upd H l (.tup ys))) :=
  fun pins s σ H given held Q inv rel ask => by
    obtain ⟨p, ys, e, hp, q⟩ := ask
    exact call_tuple_of pins s σ H given held Q inv rel ⟨p, ys, e, .inl ⟨SqL.of hp, q⟩⟩
theorem sortPair {X : Cx} : CallR X (.builtin "sorted") (fun given H Q => ∃ (t : Addr) (i j : Int), given = [.ref t] ∧ H t = some (.tup [.int i, .int j]) ∧ ∀ l, H l = none → Q (.ref l) (upd H l (.lst [.int (min i j), .int (max i j)]))) :=
  fun pins s σ H given held Q inv rel ask => by
    obtain ⟨t, i, j, e, ht, q⟩ := ask
    refine call_sortedTup pins s σ H given held Q inv rel ⟨t, [i, j], e, .inl (.inl ht), by show 2 < 64; decide, fun up l perm rise fresh => ?_⟩
    have two : up = [min i j, max i j] := by
      have len : up.length = 2 := perm.length_eq
      match up, len with
      | [a, b], _ =>
        have le : a ≤ b := (List.pairwise_cons.mp rise).1 b List.mem_cons_self
        have ma : a ∈ [i, j] := perm.mem_iff.mp List.mem_cons_self
        have mi : i ∈ [a, b] := perm.mem_iff.mpr List.mem_cons_self
        have mj : j ∈ [a, b] := perm.mem_iff.mpr (List.mem_cons_of_mem _ List.mem_cons_self)
        have mb : b ∈ [i, j] := perm.mem_iff.mp (List.mem_cons_of_mem _ List.mem_cons_self)
        simp only [List.mem_cons, List.not_mem_nil, or_false] at ma mi mj mb
        have e1 : a = min i j := by omega
        have e2 : b = max i j := by omega
        rw [e1, e2]
    rw [two]
    exact q l fresh

/-! ### self.f = {.. for .. in ..} -/
theorem fld_dc {K : PySem.W.Frag} {wi : TI} {g : TG} {tt : TT} {tk tv : TE} {vs : List Nat} {f : Str} {D : Ends} {σ : L2.St} {H : Hp} {ta : TE} (S : It → Hp → Prop) (walks : ∀ R : It → Hp → Prop, (∀ J H1, S J H1 → R J H1) → wi σ H R)
    (body : ∀ J H1, S J H1 → tDc (fun _ Hs R => R J Hs) g tt tk tv vs σ H1 (fun y Hy => sFld K ta (fun _ _ R => R y Hy) f D σ Hy)) : sFld K ta (tDc wi g tt tk tv vs) f D σ H := walks _ body

/-! ### arrangements -/
/-- an arrangement of the images comes of an arrangement -/
theorem perm_lift {α β : Type} (f : α → β) : ∀ (ks : List β) (l : List α), ks.Perm (l.map f) → ∃ l' : List α, l'.Perm l ∧ l'.map f = ks
  | [], l, h => by
    have e : l.map f = [] := List.perm_nil.mp h.symm
    have e2 : l = [] := List.map_eq_nil_iff.mp e
    exact ⟨[], by rw [e2], rfl⟩
  | k :: r, l, h => by
    have hk : k ∈ l.map f := h.mem_iff.mp List.mem_cons_self
    obtain ⟨a, ha, rfl⟩ := List.mem_map.mp hk
    obtain ⟨u, w, rfl⟩ := List.append_of_mem ha
    have move : (u ++ a :: w).Perm (a :: (u ++ w)) := List.perm_middle
    have rest : r.Perm ((u ++ w).map f) := by
      have h2 : (f a :: r).Perm (f a :: (u ++ w).map f) := h.trans (move.map f)
      exact (List.perm_cons (f a)).mp h2
    obtain ⟨l', p, e⟩ := perm_lift f r (u ++ w) rest
    exact ⟨a :: l', (p.cons a).trans move.symm, by rw [List.map_cons, e]⟩
theorem marksK_take {ms : List (Int × Int)} {i : Nat} (hi : i < ms.length) (nd : (ms.map (·.1)).Nodup) : putK (marksK (ms.take i)) (Sum.inl ms[i].1) (.int ms[i].2) = marksK (ms.take (i + 1)) := by
  have fresh : (Sum.inl ms[i].1 : Key) ∉ (marksK (ms.take i)).map (·.1) := fun z => by
    rw [keysM] at z
    obtain ⟨n, hn, e⟩ := List.mem_map.mp z
    have e2 : n = ms[i].1 := Sum.inl.inj e
    rw [e2, List.map_take] at hn
    obtain ⟨j, hj, ej⟩ := List.mem_iff_getElem.mp hn
    rw [List.length_take, List.length_map] at hj
    rw [List.getElem_take, List.getElem_map] at ej
    have apart := List.pairwise_iff_getElem.mp nd j i (by rw [List.length_map]; omega) (by rw [List.length_map]; exact hi) (by omega)
    rw [List.getElem_map, List.getElem_map] at apart
    exact apart ej
  rw [putK_new _ (valV_fresh fresh), List.take_succ_eq_append_getElem hi]
  unfold marksK
  rw [List.map_append]
  rfl

/-! ### behind a lock -/
theorem unlock {H H' : Hp} {a : Addr} {o : Obj} {u : HO} (here : H a = some u) (s : Same (upd H a (.frz o u)) H') : Same H (upd H' a u) := fun q w hq => by
  by_cases e : q = a
  · subst e
    rw [upd_same, ← here, hq]
  · rw [upd_ne e]
    exact s q w (by rw [upd_ne e]; exact hq)
theorem star_take {es : List Edg} {n : Int} {j : Nat} (hj : j < es.length) : star (es.take (j + 1)) n = star (es.take j) n ++ (if es[j].lo = n ∨ es[j].hi = n then [es[j].letter] else []) := by
  rw [List.take_succ_eq_append_getElem hj]
  unfold star
  rw [List.filter_append, List.map_append]
  congr 1
  by_cases c : es[j].lo = n ∨ es[j].hi = n
  · rw [if_pos c]
    simp [c]
  · rw [if_neg c]
    simp only [not_or] at c
    simp [c.1, c.2]
theorem star_len (es : List Edg) (n : Int) : (star es n).length ≤ es.length := by
  unfold star
  rw [List.length_map]
  exact List.length_filter_le _ _
theorem in_two (n a b : Int) : inV (.int n) [.int a, .int b] = decide (a = n ∨ b = n) := by
  show ((a == n) || ((b == n) || false)) = _
  by_cases c1 : a = n <;> by_cases c2 : b = n <;> simp [c1, c2]
theorem starsK_take {ms : List (Int × Int)} {es : List Edg} {i : Nat} (hi : i < ms.length) (nd : (ms.map (·.1)).Nodup) :
    putK (starsK (ms.take i) es) (Sum.inl ms[i].1) (.str (txt (star es ms[i].1))) = starsK (ms.take (i + 1)) es := by
  have keys : (starsK (ms.take i) es).map (·.1) = (marksK (ms.take i)).map (·.1) := by
    unfold starsK marksK
    rw [List.map_map, List.map_map]
    rfl
  have fresh : (Sum.inl ms[i].1 : Key) ∉ (starsK (ms.take i) es).map (·.1) := fun z => by
    rw [keys, keysM] at z
    obtain ⟨n, hn, e⟩ := List.mem_map.mp z
    have e2 : n = ms[i].1 := Sum.inl.inj e
    rw [e2, List.map_take] at hn
    obtain ⟨j, hj, ej⟩ := List.mem_iff_getElem.mp hn
    rw [List.length_take, List.length_map] at hj
    rw [List.getElem_take, List.getElem_map] at ej
    have apart := List.pairwise_iff_getElem.mp nd j i (by rw [List.length_map]; omega) (by rw [List.length_map]; exact hi) (by omega)
    rw [List.getElem_map, List.getElem_map] at apart
    exact apart ej
  rw [putK_new _ (valV_fresh fresh), List.take_succ_eq_append_getElem hi]
  unfold starsK
  rw [List.map_append]
  rfl

/-! ### what the methods promise, of a web that stands, asked for what it has -/
theorem webF_no (a1 a2 a3 : Addr) {m : Str} (h1 : ¬ m = "marks") (h2 : ¬ m = "pairs") (h3 : ¬ m = "stars") : (webF a1 a2 a3).lookup m = none := by
  unfold webF
  rw [lookup_putF, if_neg h3, lookup_putF, if_neg h2, lookup_putF, if_neg h1]
  rfl
def spChkN (C : Addr) : Sp := fun vs H Q _ => ∃ (x : Addr) (n : Int) (ms : List (Int × Int)) (es : List Edg), vs = [.ref x, .int n] ∧ WebAt C H x ms es ∧ n ∈ ms.map (·.1) ∧ Q .non H
def spChkD (C : Addr) : Sp := fun vs H Q _ => ∃ (x : Addr) (e : Edg) (ms : List (Int × Int)) (es : List Edg), vs = [.ref x, .str (txt [e.letter])] ∧ WebAt C H x ms es ∧ e ∈ es ∧ Q .non H
def spNodes (C : Addr) : Sp := fun vs H Q _ => ∃ (x : Addr) (ms : List (Int × Int)) (es : List Edg), vs = [.ref x] ∧ WebAt C H x ms es ∧ ∀ p, H p = none → Q (.ref p) (upd H p (.lst ((ms.map (·.1)).map V.int)))
def spEdges (C : Addr) : Sp := fun vs H Q _ => ∃ (x : Addr) (ms : List (Int × Int)) (es : List Edg), vs = [.ref x] ∧ WebAt C H x ms es ∧ ∀ p, H p = none → Q (.ref p) (upd H p (.lst ((es.map (·.letter)).map sig)))
def spMark (C : Addr) : Sp := fun vs H Q _ => ∃ (x : Addr) (n k : Int) (ms : List (Int × Int)) (es : List Edg), vs = [.ref x, .int n] ∧ WebAt C H x ms es ∧ (n, k) ∈ ms ∧ Q (.int k) H
def spEnds (C : Addr) : Sp := fun vs H Q _ => ∃ (x : Addr) (e : Edg) (ms : List (Int × Int)) (es : List Edg), vs = [.ref x, .str (txt [e.letter])] ∧ WebAt C H x ms es ∧ e ∈ es ∧ Q (.ref e.pair) H
def spLWeb (C : Addr) : Sp := fun vs H Q _ => ∃ (t : Addr) (ms : List (Int × Int)) (es : List Edg), vs = [.ref t] ∧ RawAt H t ms es ∧ ms.length < 64 ∧ es.length < 64 ∧
  ∀ H' x ms' es', Same H H' → WebAt C H' x ms' es' → Made ms ms' es es' → Q (.ref x) H'

/-! ### a web against drawn dicts -/
theorem one_order_int : ∀ (a b : List Int), a.Perm b → a.Pairwise (· ≤ ·) → b.Pairwise (· ≤ ·) → a = b
  | [], b, p, _, _ => (List.perm_nil.mp p.symm).symm
  | x :: r, [], p, _, _ => absurd p.length_eq (by simp)
  | x :: r, y :: t, p, ha, hb => by
    have hx : x ∈ y :: t := p.mem_iff.mp List.mem_cons_self
    have hy : y ∈ x :: r := p.mem_iff.mpr List.mem_cons_self
    have xy : x ≤ y := by
      rcases List.mem_cons.mp hy with e | e
      · omega
      · exact (List.pairwise_cons.mp ha).1 y e
    have yx : y ≤ x := by
      rcases List.mem_cons.mp hx with e | e
      · omega
      · exact (List.pairwise_cons.mp hb).1 x e
    have e : x = y := by omega
    subst e
    rw [one_order_int r t ((List.perm_cons x).mp p) (List.pairwise_cons.mp ha).2 (List.pairwise_cons.mp hb).2]
theorem one_order_nat {a b : List Nat} (p : a.Perm b) (ha : a.Pairwise (· < ·)) (hb : b.Pairwise (· < ·)) : a = b := by
  have h := one_order_int (a.map Int.ofNat) (b.map Int.ofNat) (p.map _) (List.pairwise_map.mpr (ha.imp fun h => by simp; omega)) (List.pairwise_map.mpr (hb.imp fun h => by simp; omega))
  have back := congrArg (List.map Int.toNat) h
  rw [List.map_map, List.map_map] at back
  have e : (Int.toNat ∘ Int.ofNat) = id := funext fun n => rfl
  rw [e, List.map_id, List.map_id] at back
  exact back
/-- a drawn web whose dicts stand in any order -/
def RawG (H : Hp) (t : Addr) (ms : List (Int × Int)) (es : List Edg) : Prop :=
  ∃ dm de : Addr, H t = some (.tup [.ref dm, .ref de]) ∧ H dm = some (.dK (marksK ms)) ∧ H de = some (.dK (endsK es)) ∧ MarksOk ms ∧ EdgesOk H ms es ∧ ∀ e ∈ es, e.lo < e.hi
theorem RawG.same {H H' : Hp} {t : Addr} {ms : List (Int × Int)} {es : List Edg} (r : RawG H t ms es) (s : Same H H') : RawG H' t ms es := by
  obtain ⟨dm, de, h1, h2, h3, h4, h5, h6⟩ := r
  exact ⟨dm, de, s _ _ h1, s _ _ h2, s _ _ h3, h4, h5.same s, h6⟩
theorem WebAt.same {C : Addr} {H H' : Hp} {x : Addr} {ms : List (Int × Int)} {es : List Edg} (r : WebAt C H x ms es) (s : Same H H') : WebAt C H' x ms es := by
  obtain ⟨dx, a1, a2, a3, h1, h2, h3, h4, h5⟩ := r
  exact ⟨dx, a1, a2, a3, s _ _ h1, s _ _ h2, s _ _ h3, s _ _ h4, ⟨h5.rise, h5.node, h5.mark, h5.risE, h5.name, fun e he => s _ _ (h5.pair e he), h5.less, h5.ends⟩⟩
def tri (e : Edg) : Nat × Int × Int := (e.letter, e.lo, e.hi)
def spIsWeb (C : Addr) : Sp := fun vs H Q _ => ∃ (x t : Addr) (ms ms0 : List (Int × Int)) (es es0 : List Edg), vs = [.ref x, .ref t] ∧ WebAt C H x ms es ∧ RawG H t ms0 es0 ∧ ms.Perm ms0 ∧ (es.map tri).Perm (es0.map tri) ∧ ∀ H', Same H H' → Q (.bl true) H'
theorem eqv_ints {H : Hp} {p q : Addr} {ks : List Int} {n : Nat} (hp : H p = some (.lst (ks.map V.int))) (hq : H q = some (.lst (ks.map V.int))) (few : ks.length ≤ 10000) : Eqv H (n + 1) (.ref p) (.ref q) :=
  .lst hp hq rfl (by rw [List.length_map]; exact few) fun i x y hx hy => by
    have e : x = y := Option.some.inj (hx.symm.trans hy)
    subst e
    obtain ⟨k, _, rfl⟩ := List.mem_map.mp (List.mem_of_getElem? hx)
    exact .int _ _
theorem eqv_sigs {H : Hp} {p q : Addr} {cs : List Nat} {n : Nat} (hp : H p = some (.lst (cs.map sig))) (hq : H q = some (.lst (cs.map sig))) (few : cs.length ≤ 10000) : Eqv H (n + 1) (.ref p) (.ref q) :=
  .lst hp hq rfl (by rw [List.length_map]; exact few) fun i x y hx hy => by
    have e : x = y := Option.some.inj (hx.symm.trans hy)
    subst e
    obtain ⟨k, _, rfl⟩ := List.mem_map.mp (List.mem_of_getElem? hx)
    exact .str _ _
theorem eqv_pair {H : Hp} {p q : Addr} {i j : Int} {n : Nat} (hp : H p = some (.tup [.int i, .int j])) (hq : H q = some (.tup [.int i, .int j])) : Eqv H (n + 1) (.ref p) (.ref q) :=
  .tup hp hq rfl (by show 2 ≤ 10000; decide) fun k x y hx hy => by
    have e : x = y := Option.some.inj (hx.symm.trans hy)
    subst e
    have m : x ∈ [V.int i, V.int j] := List.mem_of_getElem? hx
    rcases List.mem_cons.mp m with rfl | m
    · exact .int _ _
    · rw [List.mem_singleton.mp m]
      exact .int _ _

/-! ### lists of pairs -/
def PairsAt (H : Hp) (p : Addr) (prs : List (Int × Int)) : Prop :=
  ∃ ps : List Addr, H p = some (.lst (ps.map V.ref)) ∧ ps.length = prs.length ∧ ∀ (j : Nat) (q : Addr) (z : Int × Int), ps[j]? = some q → prs[j]? = some z → H q = some (.tup [.int z.1, .int z.2])
theorem PairsAt.same {H H' : Hp} {p : Addr} {prs : List (Int × Int)} (h : PairsAt H p prs) (s : Same H H') : PairsAt H' p prs := by
  obtain ⟨ps, h1, h2, h3⟩ := h
  exact ⟨ps, s _ _ h1, h2, fun j q z a b => s _ _ (h3 j q z a b)⟩
theorem PairsAt.keep {H H' : Hp} {b p : Addr} {prs : List (Int × Int)} (h : PairsAt H p prs) (hb : ∃ u, H b = some (.lst u)) (np : p ≠ b) (k : Kp b H H') : PairsAt H' p prs := by
  obtain ⟨ps, h1, h2, h3⟩ := h
  obtain ⟨u, hb⟩ := hb
  exact ⟨ps, k _ _ np h1, h2, fun j q z x y => k _ _ (ne_of (h3 j q z x y) hb (by intro e; cases e)) (h3 j q z x y)⟩
theorem Bag.hbl {H : Hp} {b l : Addr} (B : Bag H b l) : ∃ u, H b = some (.lst u) := by
  obtain ⟨xs, i, n, s, h, _⟩ := B
  exact ⟨_, h⟩
def GoodPairs (size : Int) (prs : List (Int × Int)) : Prop := ∀ z ∈ prs, 0 ≤ z.1 ∧ z.1 < size ∧ 0 ≤ z.2 ∧ z.2 < size ∧ z.1 ≠ z.2
def spPairs (prs : List (Int × Int)) : Sp := fun vs H Q _ => vs = [] ∧ ∀ H' p, Same H H' → H p = none → PairsAt H' p prs → Q (.ref p) H'
def fiveP : List (Int × Int) := [(0, 1), (0, 2), (0, 3), (0, 4), (1, 2), (1, 3), (1, 4), (2, 3), (2, 4), (3, 4)]
def sixP : List (Int × Int) := [(0, 3), (0, 4), (0, 5), (1, 3), (1, 4), (1, 5), (2, 3), (2, 4), (2, 5)]
/-- the pairs of a display, one tuple after another -/
inductive Laid : Hp → List (Int × Int) → List Addr → Hp → Prop
  | nil (H : Hp) : Laid H [] [] H
  | cons {H H' : Hp} {z : Int × Int} {r : List (Int × Int)} {q : Addr} {qs : List Addr} (new : H q = none) (rest : Laid (upd H q (.tup [.int z.1, .int z.2])) r qs H') : Laid H (z :: r) (q :: qs) H'
theorem Laid.same {H H' : Hp} {prs : List (Int × Int)} {qs : List Addr} (h : Laid H prs qs H') : Same H H' := by
  induction h with
  | nil H => exact Same.refl H
  | cons new _ ih => exact (same_upd new).trans ih
theorem Laid.at {H H' : Hp} {prs : List (Int × Int)} {qs : List Addr} (h : Laid H prs qs H') : qs.length = prs.length ∧ ∀ (j : Nat) (q : Addr) (z : Int × Int), qs[j]? = some q → prs[j]? = some z → H' q = some (.tup [.int z.1, .int z.2]) := by
  induction h with
  | nil H => exact ⟨rfl, fun j q z hq => by cases hq⟩
  | @cons H H' z r q qs new rest ih =>
    refine ⟨by rw [List.length_cons, List.length_cons, ih.1], fun j q' z' hq hz => ?_⟩
    cases j with
    | zero =>
      cases hq
      cases hz
      exact rest.same _ _ upd_same
    | succ j => exact ih.2 j q' z' hq hz
/-- a list of such tuples, laid last -/
theorem pairs_laid {H H' : Hp} {prs : List (Int × Int)} {qs : List Addr} {p : Addr} (h : Laid H prs qs H') (new : H' p = none) : PairsAt (upd H' p (.lst (qs.map V.ref))) p prs := by
  refine ⟨qs, upd_same, h.at.1, fun j q z hq hz => ?_⟩
  have st := h.at.2 j q z hq hz
  rw [upd_ne (ne_of_none st new)]
  exact st
def spRen : Sp := fun vs H Q _ => ∃ (b l : Addr) (size : Int) (pp : Addr) (prs : List (Int × Int)), vs = [.ref b, .int size, .ref pp] ∧ Bag H b l ∧ PairsAt H pp prs ∧ pp ≠ b ∧ 0 ≤ size ∧ size ≤ 12 ∧ GoodPairs size prs ∧ prs.length ≤ 24 ∧
  ∀ H' t ms es, Kp b H H' → Bag H' b l → RawG H' t ms es → Q (.ref t) H'

/-- the same, each pair with its address -/
def PairsZ (H : Hp) (p : Addr) (pz : List (Addr × Int × Int)) : Prop := H p = some (.lst (pz.map fun a => V.ref a.1)) ∧ ∀ a ∈ pz, H a.1 = some (.tup [.int a.2.1, .int a.2.2])
theorem PairsAt.z {H : Hp} {p : Addr} {prs : List (Int × Int)} (h : PairsAt H p prs) : ∃ pz, PairsZ H p pz ∧ pz.map (·.2) = prs := by
  obtain ⟨ps, h1, h2, h3⟩ := h
  refine ⟨ps.zip prs, ⟨?_, fun a ha => ?_⟩, List.map_snd_zip (by omega)⟩
  · have e : (ps.zip prs).map (fun a => V.ref a.1) = ((ps.zip prs).map (·.1)).map V.ref := by rw [List.map_map]; rfl
    rw [e, List.map_fst_zip (by omega)]
    exact h1
  · obtain ⟨j, hj, e⟩ := List.mem_iff_getElem.mp ha
    have g : (ps.zip prs)[j]? = some a := by rw [List.getElem?_eq_getElem hj, e]
    obtain ⟨g1, g2⟩ := List.getElem?_zip_eq_some.mp g
    exact h3 j a.1 a.2 g1 g2
theorem PairsZ.at {H : Hp} {p : Addr} {pz : List (Addr × Int × Int)} (h : PairsZ H p pz) : PairsAt H p (pz.map (·.2)) := by
  refine ⟨pz.map (·.1), by rw [h.1, List.map_map]; rfl, by rw [List.length_map, List.length_map], fun j q z hq hz => ?_⟩
  rw [List.getElem?_map] at hq hz
  cases e : pz[j]? with
  | none => rw [e] at hq; cases hq
  | some a =>
    rw [e] at hq hz
    cases hq
    cases hz
    exact h.2 a (List.mem_of_getElem? e)
theorem PairsZ.keep {H H' : Hp} {b p : Addr} {pz : List (Addr × Int × Int)} (h : PairsZ H p pz) (hb : ∃ u, H b = some (.lst u)) (np : p ≠ b) (k : Kp b H H') : PairsZ H' p pz := by
  obtain ⟨u, hb⟩ := hb
  exact ⟨k _ _ np h.1, fun a ha => k _ _ (ne_of (h.2 a ha) hb (by intro e; cases e)) (h.2 a ha)⟩
theorem PairsZ.same {H H' : Hp} {p : Addr} {pz : List (Addr × Int × Int)} (h : PairsZ H p pz) (s : Same H H') : PairsZ H' p pz := ⟨s _ _ h.1, fun a ha => s _ _ (h.2 a ha)⟩
/-- the list at p written anew with pairs that stand -/
theorem PairsZ.put {H : Hp} {p : Addr} {pz : List (Addr × Int × Int)} {u : List V} (hp : H p = some (.lst u)) (h : ∀ a ∈ pz, H a.1 = some (.tup [.int a.2.1, .int a.2.2])) : PairsZ (upd H p (.lst (pz.map fun a => V.ref a.1))) p pz :=
  ⟨upd_same, fun a ha => by rw [upd_ne (ne_of (h a ha) hp (by intro e; cases e))]; exact h a ha⟩
theorem erase_map {α β : Type} (f : α → β) : ∀ (l : List α) (k : Nat), (l.map f).eraseIdx k = (l.eraseIdx k).map f
  | [], _ => rfl
  | _ :: _, 0 => rfl
  | x :: r, k + 1 => by
    show f x :: (r.map f).eraseIdx k = f x :: (r.eraseIdx k).map f
    rw [erase_map f r k]
def spHard : Sp := fun vs H Q _ => ∃ (b l : Addr), vs = [.ref b] ∧ Bag H b l ∧ ∀ H' t ms es, Kp b H H' → Bag H' b l → RawG H' t ms es → Q (.ref t) H'
theorem RawAt.g {H : Hp} {t : Addr} {ms : List (Int × Int)} {es : List Edg} (h : RawAt H t ms es) (mf : ms.length < 64) (ef : es.length < 64) : RawG H t ms es := by
  obtain ⟨dm, de, h1, h2, h3, ok⟩ := h
  refine ⟨dm, de, h1, h2, h3, ⟨ok.rise.imp fun hab e => by rw [e] at hab; exact Int.lt_irrefl _ hab, mf, ok.node, ok.mark⟩, ⟨ok.risE.imp fun hab e => by rw [e] at hab; exact Nat.lt_irrefl _ hab, ef, ok.name, fun e he => ⟨ok.pair e he, ?_, ok.ends e he⟩⟩, ok.less⟩
  have := ok.less e he
  omega
/-- nodes from 0 to 11, rising: at most twelve -/
theorem few_nodes : ∀ (ks : List Int) (a : Int), (∀ k ∈ ks, a ≤ k ∧ k < 12) → ks.Pairwise (· < ·) → a ≤ 12 → (ks.length : Int) ≤ 12 - a
  | [], a, _, _, h => by simp; omega
  | k :: r, a, h, p, ha => by
    have hk := h k List.mem_cons_self
    have rest := few_nodes r (k + 1) (fun j hj => ⟨by have := (List.pairwise_cons.mp p).1 j hj; omega, (h j (List.mem_cons_of_mem _ hj)).2⟩) (List.pairwise_cons.mp p).2 (by omega)
    rw [List.length_cons]
    omega
theorem few_letters : ∀ (cs : List Nat) (a : Nat), (∀ c ∈ cs, a ≤ c ∧ c < 121) → cs.Pairwise (· < ·) → a ≤ 121 → cs.length + a ≤ 121
  | [], a, _, _, h => by simp; omega
  | c :: r, a, h, p, ha => by
    have hc := h c List.mem_cons_self
    have rest := few_letters r (c + 1) (fun j hj => ⟨by have := (List.pairwise_cons.mp p).1 j hj; omega, (h j (List.mem_cons_of_mem _ hj)).2⟩) (List.pairwise_cons.mp p).2 (by omega)
    rw [List.length_cons]
    omega
theorem alpha_range {c : Nat} (h : c ∈ alpha) : 97 ≤ c ∧ c < 121 := by
  simp only [alpha, List.mem_cons, List.not_mem_nil, or_false] at h
  omega
theorem RawAt.gen {H : Hp} {t : Addr} {ms : List (Int × Int)} {es : List Edg} (h : RawAt H t ms es) : RawG H t ms es := by
  obtain ⟨dm, de, h1, h2, h3, ok⟩ := id h
  have a := few_nodes (ms.map (·.1)) 0 (fun k hk => by obtain ⟨m, hm, rfl⟩ := List.mem_map.mp hk; exact ok.node m hm) ok.rise (by decide)
  have c := few_letters (es.map (·.letter)) 97 (fun k hk => by obtain ⟨e, he, rfl⟩ := List.mem_map.mp hk; exact alpha_range (ok.name e he)) ok.risE (by decide)
  rw [List.length_map] at a c
  exact h.g (by omega) (by omega)
end Tm

/-! lists of pairs of a letter and a string, made into tables -/
namespace Tm
open PySem PySem.Spec PyProof.Rows L2
def RowsAt (J : Hp) (D : Addr) (rz : List (Addr × Nat × List Nat)) : Prop := J D = some (.lst (rz.map fun a => V.ref a.1)) ∧ ∀ a ∈ rz, J a.1 = some (.tup [tv [a.2.1], tv a.2.2])
theorem rowsAt_nil {J : Hp} {D : Addr} : RowsAt (upd J D (.lst [])) D [] := ⟨upd_same, fun a ha => by cases ha⟩
theorem rowsAt_add {L : Hp} {D T : Addr} {rz : List (Addr × Nat × List Nat)} {c : Nat} {x : List Nat} (h : RowsAt L D rz) (nT : L T = none) :
    RowsAt (upd (upd L T (.tup [tv [c], tv x])) D (.lst ((rz.map fun a => V.ref a.1) ++ [.ref T]))) D (rz ++ [(T, c, x)]) := by
  have hD : (upd L T (.tup [tv [c], tv x])) D = some (.lst (rz.map fun a => V.ref a.1)) := by rw [upd_ne (ne_of_none h.1 nT)]; exact h.1
  have e : (rz.map fun a => V.ref a.1) ++ [.ref T] = (rz ++ [(T, c, x)]).map fun a => V.ref a.1 := by rw [List.map_append]; rfl
  rw [e]
  refine ⟨upd_same, fun q hq => ?_⟩
  have at_ : (upd L T (.tup [tv [c], tv x])) q.1 = some (.tup [tv [q.2.1], tv q.2.2]) := by
    rcases List.mem_append.mp hq with hq | hq
    · rw [upd_ne (ne_of_none (h.2 q hq) nT)]
      exact h.2 q hq
    · rw [List.mem_singleton.mp hq]
      exact upd_same
  rw [upd_ne (ne_of at_ hD (by intro e; cases e))]
  exact at_
theorem rowsAt_keep {H H' : Hp} {b D : Addr} {rz : List (Addr × Nat × List Nat)} (h : RowsAt H D rz) (nb : D ≠ b) (hb : ∃ u, H b = some (.lst u)) (k : Kp b H H') : RowsAt H' D rz := by
  obtain ⟨u, hb⟩ := hb
  exact ⟨k _ _ nb h.1, fun a ha => k _ _ (ne_of (h.2 a ha) hb (by intro e; cases e)) (h.2 a ha)⟩
theorem rowsAt_pairs {K : PySem.W.Frag} {H : Hp} : ∀ (rz : List (Addr × Nat × List Nat)), (∀ a ∈ rz, H a.1 = some (.tup [tv [a.2.1], tv a.2.2])) → Paired (fun p kv => SqT K H p [kV kv.1, kv.2]) (rz.map (·.1)) (rowsK (rz.map (·.2)))
  | [], _ => .nil
  | a :: r, h => .cons (.inl (.inl (h a List.mem_cons_self))) (rowsAt_pairs r fun q hq => h q (List.mem_cons_of_mem _ hq))
theorem rowsK_merge {rows : List (Nat × List Nat)} (nd : (rows.map (·.1)).Nodup) : mergeK [] (rowsK rows) = rowsK rows := by
  refine merge_fresh (rowsK rows) [] ?_
  show ((rowsK rows).map (·.1)).Nodup
  unfold rowsK
  rw [List.map_map]
  rw [List.nodup_iff_pairwise_ne] at *
  refine List.pairwise_map.mpr ((List.pairwise_map.mp nd).imp ?_)
  intro a b ne e
  exact ne (List.head_eq_of_cons_eq (txt_inj (Sum.inr.inj e)))
theorem once_eq {c : Nat} {x y : List Nat} : ∀ {rows : List (Nat × List Nat)}, (rows.map (·.1)).Nodup → (c, x) ∈ rows → (c, y) ∈ rows → x = y
  | [], _, h, _ => by cases h
  | r :: rs, nd, h, h2 => by
    rw [List.map_cons, List.nodup_cons] at nd
    rcases List.mem_cons.mp h with e | h'
    · rcases List.mem_cons.mp h2 with e2 | h2'
      · rw [← e] at e2
        exact (congrArg Prod.snd e2).symm
      · exact absurd (List.mem_map.mpr ⟨_, h2', by rw [← e]⟩) nd.1
    · rcases List.mem_cons.mp h2 with e2 | h2'
      · exact absurd (List.mem_map.mpr ⟨_, h', by rw [← e2]⟩) nd.1
      · exact once_eq nd.2 h' h2'
end Tm

namespace T25
open PySem PySem.Spec PyProof.Rows L2 Tm
section
variable {P : Program} {w : World} {K : PySem.W.Frag} {mg : Str → Option Value} {base : Heap}
set_option maxHeartbeats 1000000 in
theorem ok_keys {f fP fM : Addr} {fd fdP fdM : FuncData} (F : Fun K "_law_keys_moved" "_law_keys_moved" sKeys f fd) (FP : Fun K "_law_pull" "_law_pull" sPull fP fdP) (bP : Binds K fdP ["_law_bag_here", "_law_many"] []) (gP : mg "_law_pull" = some (.ref fP))
    (FM : Fun K "_law_mixed" "_law_mixed" sMixed fM fdM) (bM : Binds K fdM ["_law_bag_here", "_law_things"] []) (gM : mg "_law_mixed" = some (.ref fM)) (ml : mg "len" = none) (mr : mg "range" = none) (ms : mg "sorted" = none) (md : mg "dict" = none) (mli : mg "list" = none) :
    FnOk P w K mg base CX0 3 f fd ["_law_bag_here", "_law_things"] spKeys := by
  have GM : FnOk P w K mg base CX0 2 fM fdM ["_law_bag_here", "_law_things"] (spMixed K) := ok_mixed FM FP bP gP ml mli mr
  refine F.ok scKeys (fun vs H Q E h => ?_) (fun cdv A outer s H vs Q E hr h => ?_)
  · obtain ⟨b, l, d, n, rows, rfl, _⟩ := h
    rfl
  · obtain ⟨b, l, d, n, rows, rfl, B0, t, q⟩ := h
    refine ⟨_, pss_one (ps_ret (pe_callTy (call_dictP rfl) (by rfl) md (by decide +kernel) (pa_cons (pe_lc (own := [("_law_key", 2)]) (g := gName 2) (tt := tYes) rfl scKeys.nd (pi_list (pe_call GM hr (by rfl) gM FM.kp bM .nil pass0 (pa_cons (pv 0) (pa_cons (pe_callB (call_sortedD rfl) (by rfl) ms (by decide +kernel) (pa_cons (pv 1) pa_nil)) pa_nil)))) (blkOk_by (own := [("_law_key", 2)]) (N := ["_law_bag_here", "_law_things", "_law_key"]) (sc := defScope sKeys) (by decide +kernel))
        (fun _ _ _ _ _ => pg_name (i := 2) scKeys.nd rfl (Or.inl rfl)) (fun _ _ _ _ _ => pts_nil) (fun _ _ _ _ _ => pe_tup (pa_cons (pv 2) (pa_cons (pe_dget (hu_of hr) (pv 1) (pv 2) (fun _ _ => rfl)) pa_nil)))) pa_nil))), ?_⟩
    have ndb : d ≠ b := by
      obtain ⟨u, hb⟩ := B0.hbl
      exact ne_of t.tbl.at_ hb (by intro e; cases e)
    refine ⟨_, rfl, _, rfl, d, _, rows.map (fun r => txt [r.1]), rfl, .inl t.tbl.at_, keys_rows rows, by rw [List.length_map]; have := t.tbl.few; omega, fun ys p py _ np => ?_⟩
    have many : ys.length ≤ 30 := by rw [py.length_eq, List.length_map]; exact t.tbl.few
    refine ⟨b, l, p, ys.map V.str, rfl, B0.new np, B0.nb np, SqL.of upd_same, by rw [List.length_map]; omega, fun H2 p2 zs k2 B2 np2 hp2 pz => ?_⟩
    have pz2 : zs.Perm (rows.map fun r => V.str (txt [r.1])) := by
      have e : (rows.map fun r => V.str (txt [r.1])) = (rows.map fun r => txt [r.1]).map V.str := by rw [List.map_map]; rfl
      rw [e]
      exact pz.trans (py.map V.str)
    obtain ⟨rows', pr, ez⟩ := perm_lift (fun r : Nat × List Nat => V.str (txt [r.1])) zs rows pz2
    subst ez
    have K2 : Kp b H H2 := (Kp.new np).trans k2
    have np2b : p2 ≠ b := (B0.new np).nb np2
    have nd' : (rows'.map (·.1)).Nodup := (pr.map _).nodup_iff.mpr t.once
    have nd0 : d ≠ p2 := by
      intro e
      rw [upd_ne (ne_of_none (e ▸ t.tbl.at_) np)] at np2
      rw [← e, t.tbl.at_] at np2
      cases np2
    refine ⟨p2, rfl, ⟨_, SqL.of hp2⟩, fun D nD => ?_⟩
    have nDb : D ≠ b := B2.nb nD
    refine lc_list (K := K) (a := p2) (xs := rows'.map fun r => V.str (txt [r.1])) (fun i J => Same H2 J ∧ ∃ rz : List (Addr × Nat × List Nat), RowsAt J D rz ∧ rz.map (·.2) = rows'.take i) ⟨same_upd nD, [], rowsAt_nil, rfl⟩ (fun i J _ hv => SqL.of (hv.1 _ _ hp2)) ?_ ?_
    · rintro i v J hv ⟨sJ, rz, hz, er⟩
      rw [List.getElem?_map] at hv
      cases ek : rows'[i]? with
      | none => rw [ek] at hv; cases hv
      | some r =>
        rw [ek] at hv
        cases hv
        have mem : r ∈ rows := pr.mem_iff.mp (List.mem_of_getElem? ek)
        obtain ⟨x, hx⟩ := mem_lookup (List.mem_map.mpr ⟨r, mem, rfl⟩ : r.1 ∈ rows.map (·.1))
        have hxr : x = r.2 := by
          have m2 := lookup_mem hx
          exact once_eq t.once m2 mem
        subst hxr
        have look : valV (rowsK rows) (Sum.inr (txt [r.1])) = some (tv r.2) := by rw [rowsK_at, hx]; rfl
        have got : DGet J d (.str (txt [r.1])) (some (tv r.2)) := look ▸ DGet.k (k := Sum.inr (txt [r.1])) (sJ _ _ (K2 _ _ ndb t.tbl.at_))
        refine ⟨rfl, ?_⟩
        refine ⟨_, rfl, _, rfl, _, rfl, d, _, rfl, got, by show 2 ≤ sizeLine; decide, fun T nT => ?_⟩
        have nTD : D ≠ T := ne_of_none hz.1 nT
        refine ⟨_, by rw [upd_ne nTD]; exact hz.1, ?_, ?_, rz ++ [(T, r.1, r.2)], rowsAt_add hz nT, ?_⟩
        · rw [List.length_map, ← List.length_map (f := (·.2)), er, List.length_take]
          have := pr.length_eq
          have := t.tbl.few
          exact small1000 (by omega)
        · exact same_put (sJ.trans (same_upd nT)) nD
        · rw [List.map_append, er, List.take_succ, ek]
          rfl
    · rintro J ⟨sJ, rz, hz, er⟩
      have ll : (rows'.map fun r => V.str (txt [r.1])).length = rows'.length := List.length_map ..
      rw [ll, List.take_length] at er
      have pairs := rowsAt_pairs (K := K) rz hz.2
      rw [er] at pairs
      have hl : J D = some (.lst ((rz.map (·.1)).map V.ref)) := by rw [hz.1, List.map_map]; rfl
      refine ⟨D, rz.map (fun a : Addr × Nat × List Nat => a.1), rowsK rows', rfl, SqL.of hl, pairs, fun a na => ?_⟩
      rw [rowsK_merge nd']
      have sA : Same H2 (upd J a (.dK (rowsK rows'))) := sJ.trans (same_upd na)
      refine q _ a rows' (K2.trans (fun p o _ hp => sA _ _ hp)) (B2.same sA) ?_ ⟨⟨upd_same, by have := pr.length_eq; have := t.tbl.few; omega, fun r hr' => t.tbl.all r (pr.mem_iff.mp hr'), t.tbl.small⟩, nd', fun r hr' => t.abc r (pr.mem_iff.mp hr')⟩ pr
      have f2 : H2 a = none := sJ.free na
      cases e : H a with
      | none => rfl
      | some o =>
        by_cases hab : a = b
        · obtain ⟨u, hb⟩ := B2.hbl
          rw [hab, hb] at f2
          cases f2
        · rw [K2 _ _ hab e] at f2
          cases f2
end


end T25

/-! values of words: the mathematics -/
namespace Tm
open PySem PySem.Spec PyProof.Rows L2
def neg (s : Bool) (x : List Nat) : List Nat := signedL (((s.toNat : Nat) : Int) + ((signL x : Nat) : Int)) (lettersL x)
theorem neg_wd {s t : Bool} {cs : List Nat} (h : Lt cs) : neg s (wd t cs) = wd (s != t) cs := by
  unfold neg
  rw [letters_wd h, sign_wd h, signed_wd]
  cases s <;> cases t <;> rfl
theorem Sn.neg {n : Nat} {s : Bool} {x : List Nat} (h : Sn n x) : Sn n (neg s x) := by
  obtain ⟨t, cs, rfl, l, a⟩ := h
  exact ⟨_, cs, neg_wd a.lt, l, a⟩
theorem two_neg {n : Nat} {s t : Bool} {x y : List Nat} (hx : Sn n x) (hy : Sn n y) : two (Tm.neg s x) (Tm.neg t y) = Tm.neg (s != t) (two x y) := by
  obtain ⟨a, as, rfl, la, ha⟩ := hx
  obtain ⟨b, bs, rfl, lb, hb⟩ := hy
  rw [neg_wd ha.lt, neg_wd hb.lt, two_wd ha hb, two_wd ha hb, neg_wd (zL_al ha hb).lt]
  congr 1
  unfold od
  generalize zS as bs = z
  rcases Nat.mod_two_eq_zero_or_one z with h | h <;> cases s <;> cases t <;> cases a <;> cases b <;> simp [Nat.add_mod, h]
theorem valL_wd {n : Nat} {rows : List (Nat × List Nat)} {s : Bool} {cs : List Nat} (h : Lt cs) : valL n rows (wd s cs) = neg s ((strsOf rows cs).foldl two (List.replicate (sizeN n rows) 49)) := by
  unfold valL prodL neg
  rw [letters_wd h, sign_wd h]
  rfl
theorem fold_two {n : Nat} : ∀ (ys : List (List Nat)) {x : List Nat}, Sn n x → (∀ y ∈ ys, Sn n y) → ys.foldl two x = two x (ys.foldl two (List.replicate n 49))
  | [], x, hx, _ => (two_one hx).symm
  | y :: r, x, hx, hy => by
    have sy := hy y List.mem_cons_self
    have sr := fun z hz => hy z (List.mem_cons_of_mem _ hz)
    rw [List.foldl_cons, List.foldl_cons, fold_two r (hx.two sy) sr, one_two sy, fold_two r sy sr, two_assoc hx sy (Sn.fold (Sn.one n) sr)]
theorem strs_app (rows : List (Nat × List Nat)) (cs ds : List Nat) : strsOf rows (cs ++ ds) = strsOf rows cs ++ strsOf rows ds := List.filterMap_append ..
/-- the value of a product is the product of the values -/
theorem val_join {n : Nat} {rows : List (Nat × List Nat)} (all : ∀ r ∈ rows, Sn n r.2) {s t : Bool} {cs ds : List Nat} (hc : Lt cs) (hd : Lt ds) :
    valL n rows (wd (s != t) (cs ++ ds)) = two (valL n rows (wd s cs)) (valL n rows (wd t ds)) := by
  have hcd : Lt (cs ++ ds) := fun c h => by
    rcases List.mem_append.mp h with h | h
    · exact hc c h
    · exact hd c h
  have s1 := strs_sn all cs
  have s2 := strs_sn all ds
  have f1 := Sn.fold (Sn.one (sizeN n rows)) s1
  have f2 := Sn.fold (Sn.one (sizeN n rows)) s2
  rw [valL_wd hcd, valL_wd hc, valL_wd hd, strs_app, List.foldl_append, two_neg f1 f2, fold_two _ f1 s2]
theorem val_sn {n : Nat} {rows : List (Nat × List Nat)} (all : ∀ r ∈ rows, Sn n r.2) {s : Bool} {cs : List Nat} (hc : Lt cs) : Sn (sizeN n rows) (valL n rows (wd s cs)) := by
  rw [valL_wd hc]
  exact Sn.neg (Sn.fold (Sn.one _) (strs_sn all cs))
theorem val_nil (n : Nat) (rows : List (Nat × List Nat)) : valL n rows [] = List.replicate (sizeN n rows) 49 := by
  have e := valL_wd (n := n) (rows := rows) (s := false) (cs := []) (fun c h => by cases h)
  have e2 : neg false (List.replicate (sizeN n rows) 49) = List.replicate (sizeN n rows) 49 := neg_wd (t := false) (al_ones _).lt
  rw [show valL n rows [] = _ from e]
  exact e2
theorem join_wd {s t : Bool} {cs ds : List Nat} (hc : Lt cs) (hd : Lt ds) : joinL [wd s cs, wd t ds] = wd (s != t) (cs ++ ds) := by
  unfold joinL signsL allL
  simp only [List.map_cons, List.map_nil, List.sum_cons, List.sum_nil, List.flatten_cons, List.flatten_nil, List.append_nil, letters_wd hc, letters_wd hd, sign_wd hc, sign_wd hd]
  rw [signed_wd]
  cases s <;> cases t <;> rfl
theorem lookup_perm {rows rows' : List (Nat × List Nat)} (p : rows'.Perm rows) (nd : (rows.map (·.1)).Nodup) (c : Nat) : rows'.lookup c = rows.lookup c := by
  cases h : rows.lookup c with
  | some x =>
    have m := p.mem_iff.mpr (lookup_mem h)
    obtain ⟨y, hy⟩ := mem_lookup (List.mem_map.mpr ⟨_, m, rfl⟩ : c ∈ rows'.map (·.1))
    rw [hy, once_eq nd (p.mem_iff.mp (lookup_mem hy)) (lookup_mem h)]
  | none =>
    cases h2 : rows'.lookup c with
    | none => rfl
    | some y =>
      obtain ⟨z, hz⟩ := mem_lookup (List.mem_map.mpr ⟨_, p.mem_iff.mp (lookup_mem h2), rfl⟩ : c ∈ rows.map (·.1))
      rw [hz] at h
      cases h
theorem val_perm {n : Nat} {rows rows' : List (Nat × List Nat)} (p : rows'.Perm rows) (nd : (rows.map (·.1)).Nodup) (word : List Nat) : valL n rows' word = valL n rows word := by
  have e1 : sizeN n rows' = sizeN n rows := by
    unfold sizeN
    have l := p.length_eq
    cases rows with
    | nil => rw [List.length_eq_zero_iff.mp l]
    | cons a r =>
      cases rows' with
      | nil => cases l
      | cons _ _ => rfl
  have e2 : ∀ cs, strsOf rows' cs = strsOf rows cs := fun cs => by
    unfold strsOf
    congr 1
    funext c
    exact lookup_perm p nd c
  unfold valL prodL
  rw [e1, e2]
theorem abc_lt {rows : List (Nat × List Nat)} (abc : ∀ r ∈ rows, r.1 ∈ alpha) {cs : List Nat} (h : ∀ c ∈ cs, c ∈ rows.map (·.1)) : Lt cs := fun c hc => by
  obtain ⟨r, hr, rfl⟩ := List.mem_map.mp (h c hc)
  exact alpha_lt (abc r hr)
theorem good_of {rows : List (Nat × List Nat)} {cs : List Nat} (h : ∀ c ∈ cs, c ∈ rows.map (·.1)) : goodW rows cs := fun c hc => mem_lookup (h c hc)
end Tm

/-! the table of a def whose lambdas are made -/
namespace Tm
open PySem PySem.Spec PyProof.Rows L2 LamX
theorem tabs_same {T : List (Addr × Str)} {H H' : Hp} (t : Tabs T H) (s : Same H H') : Tabs T H' := fun p hp => (t p hp).ext s
theorem tabs_keep {T : List (Addr × Str)} {H H' : Hp} {b : Addr} (t : Tabs T H) (hb : ∃ u, H b = some (.lst u)) (k : Kp b H H') : Tabs T H' := by
  obtain ⟨u, hb⟩ := hb
  intro p hp
  obtain ⟨ps, h1, h2, h3⟩ := t p hp
  refine ⟨ps, k _ _ (ne_of h1 hb (by intro e; cases e)) h1, h2, fun pos cv hc => ?_⟩
  obtain ⟨c, e, hcode⟩ := h3 pos cv hc
  exact ⟨c, e, k _ _ (ne_of hcode hb (by intro e; cases e)) hcode⟩
theorem tabs_first {P : Addr} {q : Str} {H : Hp} (h : H P = some (.tbl #[])) : Tabs [(P, q)] H := by
  intro p hp
  rw [List.mem_singleton.mp hp]
  exact ⟨#[], h, by first | trivial | exact TriplesOk.nil | simp [TriplesOk], fun pos cv hc => by cases hc⟩
def spLawT (K : PySem.W.Frag) (P : Addr) : Sp := fun vs H Q _ => ∃ (a : Addr) (ns : List Int), vs = [.ref a] ∧ SqL K H a (ns.map V.int) ∧ ns.length ≤ 63 ∧ H P = some (.tbl #[]) ∧ ∀ H', Q (.bl true) H'
end Tm

namespace T25
open PySem PySem.Spec PyProof.Rows L2 Tm
open LamX L2H
abbrev sLaw : Stmt := topS 42
theorem scLaw : FnScope ["_law_script", "_law_bag_here", "_law_turn", "_law_size_here", "_law_letters_here", "_law_raw", "_law_first", "_law_last", "_law_found", "_law_strange", "_law_at", "_law_bad", "_law_strings_in", "_law_letter"] ["_law_script"] (defScope sLaw) := ⟨rfl, rfl, rfl, by decide +kernel, rfl, by decide +kernel, by decide +kernel⟩
def lamName : Str := (envOfC "law" (defScope sLaw) 0 0 .none).qual ++ "<lambda>"
theorem eqv_tvs {H : Hp} {p q : Addr} {ns : List (List Nat)} (hp : H p = some (.lst (ns.map tv))) (hq : H q = some (.lst (ns.map tv))) (few : ns.length ≤ 10000) : Eqv H 1 (.ref p) (.ref q) := by
  refine .lst hp hq rfl (by rw [List.length_map]; exact few) ?_
  intro i x y hx hy
  rw [hx] at hy
  cases hy
  obtain ⟨z, _, rfl⟩ := List.mem_map.mp (List.mem_of_getElem? hx)
  exact .str 0 (txt z)
section
variable {P : Program} {w : World} {K : PySem.W.Frag} {mg : Str → Option Value} {base : Heap}
set_option maxHeartbeats 8000000 in
theorem ok_law {f fB fP fM fO fE fA fY fW fT fZ fU fK fV fR fMu CI CT CM fX fF c PT : Addr} {fd fdB fdP fdM fdO fdE fdA fdY fdW fdT fdZ fdU fdK fdV fdR : FuncData} {kVX docX pmX cdX ctX ocX kVF docF pmF cdF ctF ocF : Value} {anX odX anF odF : Option Addr} {slX slF : Array (Option Value)}
    {oc kV dc pm ct : Value} {od an : Option Addr} {sl : Array (Option Value)}
    (lk : K.lookup f = some ⟨oc, od, .func (PySem.W.fnOf "law" "law" (defArgs sLaw) (defBody sLaw) (defScope sLaw) .none kV dc pm an (.ref c) ct), sl⟩) (cc : PySem.W.codeIn K (.ref c) "law" = true)
    (GB : FnOk P w K mg base CX0 1 fB fdB ["_law_script"] (spBag K)) (FB : Fun K "_law_bag" "_law_bag" sBag fB fdB) (bB : Binds K fdB ["_law_script"] []) (gB : mg "_law_bag" = some (.ref fB))
    (GP : FnOk P w K mg base CX0 1 fP fdP ["_law_bag_here", "_law_many"] spPull) (FP : Fun K "_law_pull" "_law_pull" sPull fP fdP) (bP : Binds K fdP ["_law_bag_here", "_law_many"] []) (gP : mg "_law_pull" = some (.ref fP))
    (GM : FnOk P w K mg base CX0 2 fM fdM ["_law_bag_here", "_law_things"] (spMixed K)) (FM : Fun K "_law_mixed" "_law_mixed" sMixed fM fdM) (bM : Binds K fdM ["_law_bag_here", "_law_things"] []) (gM : mg "_law_mixed" = some (.ref fM))
    (GO : FnOk P w K mg base CX0 2 fO fdO ["_law_bag_here", "_law_things"] (spOf K)) (FO : Fun K "_law_of" "_law_of" sOf fO fdO) (bO : Binds K fdO ["_law_bag_here", "_law_things"] []) (gO : mg "_law_of" = some (.ref fO))
    (GE : FnOk P w K mg base CX0 2 fE fdE ["_law_found", "_law_due"] (spSame 1)) (FE : Fun K "_law_same" "_law_same" sSame fE fdE) (bE : Binds K fdE ["_law_found", "_law_due"] []) (gE : mg "_law_same" = some (.ref fE))
    (GA : FnOk P w K mg base CX0 1 fA fdA [] spLets) (FA : Fun K "_law_letters" "_law_letters" sLets fA fdA) (bA : Binds K fdA [] []) (gA : mg "_law_letters" = some (.ref fA))
    (GY : FnOk P w K mg base CX0 1 fY fdY ["_law_text_here"] spLBody) (FY : Fun K "_law_body" "_law_body" sLBody fY fdY) (bY : Binds K fdY ["_law_text_here"] []) (gY : mg "_law_body" = some (.ref fY))
    (GW : FnOk P w K mg base CX0 3 fW fdW ["_law_bag_here", "_law_size_here"] spString) (FW : Fun K "_law_string" "_law_string" sLString fW fdW) (bW : Binds K fdW ["_law_bag_here", "_law_size_here"] []) (gW : mg "_law_string" = some (.ref fW))
    (GT : FnOk P w K mg base CX0 3 fT fdT ["_law_bag_here", "_law_raw", "_law_most"] spText) (FT : Fun K "_law_text" "_law_text" sLText fT fdT) (bT : Binds K fdT ["_law_bag_here", "_law_raw", "_law_most"] []) (gT : mg "_law_text" = some (.ref fT))
    (GZ : FnOk P w K mg base CX0 2 fZ fdZ ["_law_strings_in"] spLSize) (FZ : Fun K "_law_size" "_law_size" sLSize fZ fdZ) (bZ : Binds K fdZ ["_law_strings_in"] []) (gZ : mg "_law_size" = some (.ref fZ))
    (GU : FnOk P w K mg base CX0 4 fU fdU ["_law_strings_in", "_law_text_here"] spLValue) (FU : Fun K "_law_value" "_law_value" sLValue fU fdU) (bU : Binds K fdU ["_law_strings_in", "_law_text_here"] []) (gU : mg "_law_value" = some (.ref fU))
    (GK : FnOk P w K mg base CX0 3 fK fdK ["_law_bag_here", "_law_things"] spKeys) (FK : Fun K "_law_keys_moved" "_law_keys_moved" sKeys fK fdK) (bK : Binds K fdK ["_law_bag_here", "_law_things"] []) (gK : mg "_law_keys_moved" = some (.ref fK))
    (GV : FnOk P w K mg base (L2.CX P w) 5 fV fdV ["table", "word"] (spValue CI)) (FV : Fun K "value_of" "value_of" sValueOf fV fdV) (bV : Binds K fdV ["table", "word"] []) (gV : mg "value_of" = some (.ref fV))
    (RP : FnR P w K mg base CX0 3 fR spProd) (FR : Fun K "product" "product" sProd fR fdR) (gR : mg "product" = some (.ref fR)) (RM : FnR P w K mg base CX0 4 fMu spMult) (kM : PySem.W.keepIn K (.ref fMu) = true) (gMu : mg "multiply" = some (.ref fMu))
    (gX : mg "_law_tried" = some (.ref fX)) (kX : PySem.W.keepIn K (.ref fX) = true) (lX : K.lookup fX = some ⟨ocX, odX, .func (PySem.W.fnOf "_law_tried" "_law_tried" (defArgs sTried) (defBody sTried) (defScope sTried) .none kVX docX pmX anX cdX ctX), slX⟩) (cX : PySem.W.codeIn K cdX "_law_tried" = true)
    (bX : L2.Binds K (PySem.W.fnOf "_law_tried" "_law_tried" (defArgs sTried) (defBody sTried) (defScope sTried) .none kVX docX pmX anX cdX ctX) ["_law_ask"] [])
    (lF : K.lookup fF = some ⟨ocF, odF, .func (PySem.W.fnOf "_law_field" "_law_field" (defArgs sField) (defBody sField) (defScope sField) .none kVF docF pmF anF cdF ctF), slF⟩) (cF : PySem.W.codeIn K cdF "_law_field" = true)
    (bF : L2.Binds K (PySem.W.fnOf "_law_field" "_law_field" (defArgs sField) (defBody sField) (defScope sField) .none kVF docF pmF anF cdF ctF) ["_law_e"] []) (gF : mg "_law_field" = some (.ref fF)) (kF : PySem.W.keepIn K (.ref fF) = true)
    (gCT : mg "ThreadError" = some (.ref CT)) (gCM : mg "Missing" = some (.ref CM)) (x1 : PySem.W.exmOne K (.ref CI) (.ref CT) = some true) (xf : XfC K CI) (nc : PySem.W.findIn K (.ref CI) "code" = some none) (hpos : PySem.W.findIn K (.ref CI) "position" = some none)
    (TB : TabB base mg c PT) (mr : mg "range" = none) (md : mg "dict" = none) (mli : mg "list" = none) (ml : mg "len" = none) :
    FnOk P w K mg base CX0 10 f (PySem.W.fnOf "law" "law" (defArgs sLaw) (defBody sLaw) (defScope sLaw) .none kV dc pm an (.ref c) ct) ["_law_script"] (spLawT K PT) := by
  refine fn_of lk cc scLaw (fun vs H Q E h => ?_) (fun A outer s H vs Q E hr h => ?_)
  · obtain ⟨a, ns, rfl, _⟩ := h
    rfl
  · obtain ⟨a, ns, rfl, sa, few, tab0, hand⟩ := h
    have hr1 : Room 1 _ := hr.mono (by decide)
    have hr2 : Room 2 _ := hr.mono (by decide)
    have hr3 : Room 3 _ := hr.mono (by decide)
    have hr4 : Room 4 _ := hr.mono (by decide)
    have hr5 : Room 5 _ := hr.mono (by decide)
    have hr7 : Room 7 _ := hr.mono (by decide)
    have hr8 : Room 8 _ := hr.mono (by decide)
    refine ⟨_, PSs.nox (pss_cons (ps_set (i := 1) scLaw.nd rfl (.inr rfl) (pe_call GB hr1 (by rfl) gB FB.kp bB .nil pass0 (pa_cons (pv 0) pa_nil)))
      (pss_cons (ps_for PassesOwn.never rfl (pi_range1 (by rfl) mr (pa_cons pe_int pa_nil)) (pg_name (i := 2) scLaw.nd rfl (.inl rfl))
        (pss_cons (ps_asg (pe_tup (pa_cons (pe_call GP hr1 (by rfl) gP FP.kp bP .nil pass0 (pa_cons (pv 1) (pa_cons pe_int pa_nil))) (pa_cons (pe_slice sl_list (pe_call GM hr2 (by rfl) gM FM.kp bM .nil pass0 (pa_cons (pv 1) (pa_cons (pe_callTy (call_listS rfl) (by rfl) mli boot_list (pa_cons (pe_call0 GA hr1 (by rfl) gA FA.kp bA .nil pass0) pa_nil)) pa_nil))) po_none (po_some (pe_call GP hr1 (by rfl) gP FP.kp bP .nil pass0 (pa_cons (pv 1) (pa_cons pe_int pa_nil))))) pa_nil))) (pg_tup rfl (pgs_cons (pg_name (i := 3) scLaw.nd rfl (.inr rfl)) (pgs_cons (pg_name (i := 4) scLaw.nd rfl (.inl rfl)) pgs_nil))))
        (pss_cons (ps_set (i := 12) scLaw.nd rfl (.inr rfl) (pe_callTy (call_dictP rfl) (by rfl) md (by decide +kernel) (pa_cons (pe_lc (own := [("_law_letter", 13)]) (g := gName 13) (tt := tYes) rfl scLaw.nd (pi_list (pv 4)) (blkOk_by (own := [("_law_letter", 13)]) (N := ["_law_script", "_law_bag_here", "_law_turn", "_law_size_here", "_law_letters_here", "_law_raw", "_law_first", "_law_last", "_law_found", "_law_strange", "_law_at", "_law_bad", "_law_strings_in", "_law_letter"]) (sc := defScope sLaw) (by decide +kernel)) (fun _ _ _ _ _ => pg_name (i := 13) scLaw.nd rfl (Or.inl rfl)) (fun _ _ _ _ _ => pts_nil) (fun _ _ _ _ _ => (pe_tup (pa_cons (pv 13) (pa_cons (pe_call GW hr3 (by rfl) gW FW.kp bW .nil pass0 (pa_cons (pv 1) (pa_cons (pv 3) pa_nil))) pa_nil))))) pa_nil)))
        (pss_cons (ps_set (i := 5) scLaw.nd rfl (.inl rfl) (pe_tup (pa_cons pe_dnewK (pa_cons (pv 12) pa_nil))))
        (pss_cons (ps_par (i := 6) (j := 7) rfl scLaw.nd rfl rfl (by decide) rfl rfl (pa_cons (pe_call GT hr3 (by rfl) gT FT.kp bT .nil pass0 (pa_cons (pv 1) (pa_cons (pv 5) (pa_cons pe_int pa_nil)))) (pa_cons (pe_call GT hr3 (by rfl) gT FT.kp bT .nil pass0 (pa_cons (pv 1) (pa_cons (pv 5) (pa_cons pe_int pa_nil)))) pa_nil)) (by rfl))
        (pss_cons (ps_set (i := 8) scLaw.nd rfl (.inl rfl) (pe_lst (pa_cons (pe_call GV hr5 (by rfl) gV FV.kp bV .nil passL (pa_cons (pv 12) (pa_cons (pv 6) pa_nil))) (pa_cons (pe_call GV hr5 (by rfl) gV FV.kp bV .nil passL (pa_cons (pv 12) (pa_cons (pv 7) pa_nil))) (pa_cons (pe_call GV hr5 (by rfl) gV FV.kp bV .nil passL (pa_cons (pv 12) (pa_cons pe_str pa_nil))) pa_nil)))))
        (pss_cons (ps_if (pt_not (pt_val (pe_call GE hr2 (by rfl) gE FE.kp bE .nil pass0 (pa_cons (pv 8) (pa_cons (pe_lst (pa_cons (pe_call GU hr4 (by rfl) gU FU.kp bU .nil pass0 (pa_cons (pv 12) (pa_cons (pv 6) pa_nil))) (pa_cons (pe_call GU hr4 (by rfl) gU FU.kp bU .nil pass0 (pa_cons (pv 12) (pa_cons (pv 7) pa_nil))) (pa_cons (pe_op op_times pe_str (pe_call GZ hr2 (by rfl) gZ FZ.kp bZ .nil pass0 (pa_cons (pv 12) pa_nil))) pa_nil)))) pa_nil))))) pss_never pss_nil)
        (pss_cons (ps_if (pt_cmpR op_ne (pe_call GV hr5 (by rfl) gV FV.kp bV .nil passL (pa_cons (pe_call GK hr3 (by rfl) gK FK.kp bK .nil pass0 (pa_cons (pv 1) (pa_cons (pv 12) pa_nil))) (pa_cons (pv 7) pa_nil))) (pe_ix ix_list (pv 8) pe_int (fun _ _ => rfl)) (nomark _)) pss_never pss_nil)
        (pss_cons (ps_if (pt_cmpR op_ne (pe_call GV hr5 (by rfl) gV FV.kp bV .nil passL (pa_cons (pv 12) (pa_cons (pe_place RP hr3 FR.kp (by rfl) gR pass0 (pa_cons (pv 6) (pa_cons (pv 7) pa_nil))) pa_nil))) (pe_place RM hr4 kM (by rfl) gMu pass0 (pa_cons (pe_ix ix_list (pv 8) pe_int (fun _ _ => rfl)) (pa_cons (pe_ix ix_list (pv 8) pe_int (fun _ _ => rfl)) pa_nil))) (nomark _)) pss_never pss_nil)
        (pss_cons (ps_set (i := 9) scLaw.nd rfl (.inl rfl) (pe_call GO hr2 (by rfl) gO FO.kp bO .nil pass0 (pa_cons (pv 1) (pa_cons (pe_op op_cat (pe_lc (own := [("_law_letter", 13)]) (g := gName 13) rfl scLaw.nd (pi_str (pe_call0 GA hr1 (by rfl) gA FA.kp bA .nil pass0)) (blkOk_by (own := [("_law_letter", 13)]) (N := ["_law_script", "_law_bag_here", "_law_turn", "_law_size_here", "_law_letters_here", "_law_raw", "_law_first", "_law_last", "_law_found", "_law_strange", "_law_at", "_law_bad", "_law_strings_in", "_law_letter"]) (sc := defScope sLaw) (by decide +kernel)) (fun _ _ _ _ _ => pg_name (i := 13) scLaw.nd rfl (Or.inl rfl)) (fun _ _ _ _ _ => pts_one (pt_cmp (pc_dnotin (hu_of hr) (pv 13) (pv 12)))) (fun _ _ _ _ _ => pv 13)) (pe_lst (pa_cons pe_str (pa_cons pe_str pa_nil)))) pa_nil))))
        (pss_cons (ps_set (i := 10) scLaw.nd rfl (.inl rfl) (pe_call GP hr1 (by rfl) gP FP.kp bP .nil pass0 (pa_cons (pv 1) (pa_cons (pe_op op_add (pe_callB call_len_str (by rfl) ml PySem.boot_len (pa_cons (pe_call GY hr1 (by rfl) gY FY.kp bY .nil pass0 (pa_cons (pv 6) pa_nil)) pa_nil)) pe_int) pa_nil))))
        (pss_cons (ps_set (i := 11) scLaw.nd rfl (.inr rfl) (pe_op op_add_str (pe_op op_add_str (pe_op op_add_str pe_str (pe_slice sl_str (pe_call GY hr1 (by rfl) gY FY.kp bY .nil pass0 (pa_cons (pv 6) pa_nil)) po_none (po_some (pv 10)))) (pv 9)) (pe_slice sl_str (pe_call GY hr1 (by rfl) gY FY.kp bY .nil pass0 (pa_cons (pv 6) pa_nil)) (po_some (pv 10)) po_none)))
        (pss_one (ps_if (pt_cmpR (op_neD hr.units) (LamX.pe_lamcall (k := 5) (T := [(PT, lamName)]) (TT := TTried K CT CM) (by rfl) gX kX lX cX bX scTried rfl (.inl rfl) (tried_gives (k := 5) gCT gCM lF cF bF gF kF hr8) TB rfl (List.mem_singleton.mpr rfl) (fun p hp _ => by rw [List.mem_singleton.mp hp]; rfl) hr7 (show LamX.LamS (defScope sLaw) _ from LamX.lamS_by (by decide +kernel)) rfl (fun _ _ _ _ _ => rfl)
          (fun A' outer' s' H' E' f' c' room => pe_call GV room (by rfl) gV FV.kp bV .nil (passes_call (takes_of rfl rfl rfl rfl) (fun _ _ _ _ h => h)) (pa_cons (pv 12) (pa_cons (pv 11) pa_nil)))) (pe_tup (pa_cons pe_str (pa_cons (pv 10) pa_nil))) (nomark _)) pss_never pss_nil))))))))))))))
      (pss_one (ps_ret (pe_call GE hr2 (by rfl) gE FE.kp bE .nil pass0 (pa_cons (pe_lst (pa_cons (pe_call GV hr5 (by rfl) gV FV.kp bV .nil passL (pa_cons pe_dnewK (pa_cons pe_str pa_nil))) (pa_cons (pe_call GV hr5 (by rfl) gV FV.kp bV .nil passL (pa_cons pe_dnewK (pa_cons pe_str pa_nil))) pa_nil))) (pa_cons (pe_lst (pa_cons pe_str (pa_cons pe_str pa_nil))) pa_nil))))))), ?_⟩
    refine ⟨_, rfl, a, ns, rfl, sa, fun Hb b l sb nb nl Bb => ?_⟩
    have tabB : Tabs [(PT, lamName)] Hb := tabs_same (tabs_first tab0) sb
    refine ⟨6, rfl, by decide, by decide, for_range (lo := 0) (n := 6) (fun i σ H' => ∃ y2 y3 y4 y5 y6 y7 y8 y9 y10 y11 y12 y13 : Option V, σ = [some (.ref a), some (.ref b), y2, y3, y4, y5, y6, y7, y8, y9, y10, y11, y12, y13] ∧ Bag H' b l ∧ Tabs [(PT, lamName)] H')
      ⟨none, none, none, none, none, none, none, none, none, none, none, none, rfl, Bb, tabB⟩ ?_ ?_⟩
    · rintro i σ H1 hi ⟨y2, y3, y4, y5, y6, y7, y8, y9, y10, y11, y12, y13, rfl, B1, T1⟩
      refine ⟨_, rfl, b, l, 9, rfl, B1, by decide, by decide, fun H2 dn k2 B2 n0 n1 => ?_⟩
      refine ⟨_, rfl, rfl, _, rfl, by rw [txt_alpha, txt_len]; decide, fun p np => ?_⟩
      rw [txt_alpha, txt_cps]
      refine ⟨b, l, p, alpha.map sig, rfl, B2.new np, B2.nb np, SqL.of upd_same, by rw [List.length_map]; decide, fun H3 o ys k3 B3 no ho pm => ?_⟩
      obtain ⟨ds, rfl, pd⟩ := perm_sigs pm
      have nob : o ≠ b := (B2.new np).nb no
      refine ⟨_, rfl, b, l, 6, rfl, B3, by decide, by decide, fun H4 e k4 B4 e0 e1 => ?_⟩
      refine ⟨_, rfl, o, _, rfl, SqL.of (k4 _ _ nob ho), fun q nq => ?_⟩
      have ecut : cutV (ds.map sig) none (some e) = (ds.take e.toNat).map sig := by
        have ee : e = ((e.toNat : Nat) : Int) := by omega
        rw [ee, cutV_take, List.map_take]
        rfl
      rw [ecut]
      obtain ⟨n, rfl⟩ : ∃ n : Nat, dn = (n : Nat) := ⟨dn.toNat, by omega⟩
      have LSn : (ds.take e.toNat).Nodup := (pd.nodup_iff.mpr alpha_nodup).sublist (List.take_sublist _ _)
      have LSa : ∀ c ∈ ds.take e.toNat, c ∈ alpha := fun c hc => pd.mem_iff.mp (List.mem_of_mem_take hc)
      have LSl : (ds.take e.toNat).length ≤ 6 := by rw [List.length_take]; omega
      have K4 : Kp b H1 (upd H4 q (.lst ((ds.take e.toNat).map sig))) := ((k2.trans (Kp.new np)).trans (k3.trans k4)).trans (Kp.new nq)
      have B5 : Bag (upd H4 q (.lst ((ds.take e.toNat).map sig))) b l := B4.new nq
      have hq5 : (upd H4 q (.lst ((ds.take e.toNat).map sig))) q = some (.lst ((ds.take e.toNat).map sig)) := upd_same
      have nqb : q ≠ b := B4.nb nq
      generalize upd H4 q (.lst ((ds.take e.toNat).map sig)) = H5 at K4 B5 hq5 ⊢
      generalize ds.take e.toNat = LS at LSn LSa LSl hq5 ⊢
      refine ⟨by show 2 ≤ sizeLine; decide, fun tt ntt => ?_⟩
      refine ⟨tt, _, rfl, SqT.of upd_same, rfl, _, _, rfl, _, _, rfl, rfl, ?_⟩
      have K6 : Kp b H1 (upd H5 tt (.tup [.int (n : Nat), .ref q])) := K4.trans (Kp.new ntt)
      have B6 : Bag (upd H5 tt (.tup [.int (n : Nat), .ref q])) b l := B5.new ntt
      have hq6 : (upd H5 tt (.tup [.int (n : Nat), .ref q])) q = some (.lst (LS.map sig)) := (same_upd ntt) _ _ hq5
      generalize upd H5 tt (.tup [.int (n : Nat), .ref q]) = H6 at K6 B6 hq6 ⊢
      -- strings_in
      refine ⟨_, rfl, q, rfl, ⟨_, SqL.of hq6⟩, fun D nD => ?_⟩
      have nDb : D ≠ b := B6.nb nD
      refine lc_list (K := K) (a := q) (xs := LS.map sig) (fun i J => Kp b H6 J ∧ Bag J b l ∧ ∃ rz : List (Addr × Nat × List Nat), RowsAt J D rz ∧ rz.map (·.2.1) = LS.take i ∧ ∀ r ∈ rz, Sn n r.2.2) ⟨Kp.new nD, B6.new nD, [], rowsAt_nil, rfl, fun r hr' => by cases hr'⟩ (fun i J _ hv => SqL.of (hv.1 _ _ nqb hq6)) ?_ ?_
      · rintro i v J hv ⟨kJ, BJ, rz, hz, er, sn⟩
        rw [List.getElem?_map] at hv
        cases ek : LS[i]? with
        | none => rw [ek] at hv; cases hv
        | some c =>
          rw [ek] at hv
          cases hv
          refine ⟨rfl, ?_⟩
          refine ⟨_, rfl, _, rfl, _, rfl, b, l, n, rfl, BJ, by omega, fun J2 x kJ2 BJ2 sx => ?_⟩
          refine ⟨by show 2 ≤ sizeLine; decide, fun T nT => ?_⟩
          have hz2 := rowsAt_keep hz nDb BJ.hbl kJ2
          have nTD : D ≠ T := ne_of_none hz2.1 nT
          refine ⟨_, by rw [upd_ne nTD]; exact hz2.1, ?_, ?_, ?_, rz ++ [(T, c, x)], rowsAt_add hz2 nT, ?_, ?_⟩
          · have l2 : rz.length ≤ LS.length := by rw [← List.length_map (f := (·.2.1)), er, List.length_take]; omega
            rw [List.length_map]
            exact small1000 (by omega)
          · exact ((kJ.trans kJ2).trans (Kp.new nT)).put nD
          · exact (BJ2.new nT).put nDb (B6.nl nD)
          · rw [List.map_append, er, List.take_succ, ek]
            rfl
          · intro r hr'
            rcases List.mem_append.mp hr' with hr' | hr'
            · exact sn r hr'
            · rw [List.mem_singleton.mp hr']
              exact sx
      rintro J ⟨kJ, BJ, rz, hz, er, sn⟩
      have ll : (LS.map sig).length = LS.length := List.length_map ..
      rw [ll, List.take_length] at er
      have pairs := rowsAt_pairs (K := K) rz hz.2
      have hl : J D = some (.lst ((rz.map (fun a : Addr × Nat × List Nat => a.1)).map V.ref)) := by rw [hz.1, List.map_map]; rfl
      refine ⟨D, rz.map (fun a : Addr × Nat × List Nat => a.1), rowsK (rz.map (fun a : Addr × Nat × List Nat => a.2)), rfl, SqL.of hl, pairs, fun d nd => ?_⟩
      have keysE : (rz.map (fun a : Addr × Nat × List Nat => a.2)).map (·.1) = LS := by rw [List.map_map]; exact er
      have ndr : ((rz.map (fun a : Addr × Nat × List Nat => a.2)).map (·.1)).Nodup := by rw [keysE]; exact LSn
      rw [rowsK_merge ndr]
      have K7 : Kp b H1 (upd J d (.dK (rowsK (rz.map (fun a : Addr × Nat × List Nat => a.2))))) := (K6.trans kJ).trans (Kp.new nd)
      have B7 : Bag (upd J d (.dK (rowsK (rz.map (fun a : Addr × Nat × List Nat => a.2))))) b l := BJ.new nd
      have t7 : TblL (upd J d (.dK (rowsK (rz.map (fun a : Addr × Nat × List Nat => a.2))))) d n (rz.map (fun a : Addr × Nat × List Nat => a.2)) := by
        refine ⟨⟨upd_same, ?_, ?_, by omega⟩, ndr, ?_⟩
        · rw [List.length_map, ← List.length_map (f := (·.2.1)), er]; omega
        · intro r hr'
          obtain ⟨z, hz', rfl⟩ := List.mem_map.mp hr'
          exact sn z hz'
        · intro r hr'
          exact LSa _ (by rw [← keysE]; exact List.mem_map.mpr ⟨r, hr', rfl⟩)
      have ndb : d ≠ b := BJ.nb nd
      generalize upd J d (.dK (rowsK (rz.map (fun a : Addr × Nat × List Nat => a.2)))) = H7 at K7 B7 t7 ⊢
      generalize rz.map (fun a : Addr × Nat × List Nat => a.2) = rows at t7 ⊢
      intro m nm
      refine ⟨_, rfl, by show 2 ≤ sizeLine; decide, fun r nr => ?_⟩
      have s8 : Same H7 (upd (upd H7 m (.dK [])) r (.tup [.ref m, .ref d])) := (same_upd nm).trans (same_upd nr)
      have hr8' : (upd (upd H7 m (.dK [])) r (.tup [.ref m, .ref d])) r = some (.tup [.ref m, .ref d]) := upd_same
      generalize upd (upd H7 m (.dK [])) r (.tup [.ref m, .ref d]) = H8 at s8 hr8' ⊢
      have K8 : Kp b H1 H8 := K7.trans (fun p o _ hp => s8 _ _ hp)
      have B8 := B7.same s8
      have t8 := t7.same s8
      have nrb : r ≠ b := by
        obtain ⟨u, hb⟩ := B8.hbl
        exact ne_of hr8' hb (by intro e; cases e)
      refine ⟨_, rfl, _, rfl, b, l, r, m, d, n, 9, rows, rfl, B8, hr8', t8, by decide, fun H9 w1 k9 B9 wo1 => ?_⟩
      refine ⟨_, rfl, _, rfl, b, l, r, m, d, n, 9, rows, rfl, B9, k9 _ _ nrb hr8', t8.keep ndb k9, by decide, fun H10 w2 k10 B10 wo2 => ⟨_, _, rfl, ?_⟩⟩
      have t10 := (t8.keep ndb k9).keep ndb k10
      have K10 : Kp b H1 H10 := K8.trans (k9.trans k10)
      obtain ⟨s1, c1, rfl, l1, m1⟩ := wo1
      obtain ⟨s2, c2, rfl, l2, m2⟩ := wo2
      have lt1 := abc_lt t10.abc m1
      have lt2 := abc_lt t10.abc m2
      have e1 : lettersL (wd s1 c1) = c1 := letters_wd lt1
      have e2 : lettersL (wd s2 c2) = c2 := letters_wd lt2
      have w1l : (wd s1 c1).length ≤ 10 := by rw [wd_len]; cases s1 <;> simp <;> omega
      have w2l : (wd s2 c2).length ≤ 10 := by rw [wd_len]; cases s2 <;> simp <;> omega
      have noBad : ∀ {cs : List Nat}, goodW rows cs → ∀ (i c : Nat), cs[i]? = some c → rows.lookup c = none → False := by
        intro cs g i c hc hn
        obtain ⟨x, hx⟩ := g c (List.mem_of_getElem? hc)
        rw [hn] at hx
        cases hx
      have g1 : goodW rows (lettersL (wd s1 c1)) := by rw [e1]; exact good_of m1
      have g2 : goodW rows (lettersL (wd s2 c2)) := by rw [e2]; exact good_of m2
      have g0 : goodW rows (lettersL []) := fun c hc => by cases hc
      have few9 : sizeN n rows ≤ 900 := by
        unfold sizeN
        split <;> omega
      -- found
      refine ⟨_, rfl, _, rfl, d, n, rows, wd s1 c1, rfl, t10.tbl, by omega, by rw [e1]; omega, fun _ H11 s11 => ?_, fun i c hc hn _ _ _ _ _ _ => noBad g1 i c hc hn⟩
      refine ⟨_, rfl, _, rfl, d, n, rows, wd s2 c2, rfl, (t10.same s11).tbl, by omega, by rw [e2]; omega, fun _ H12 s12 => ?_, fun i c hc hn _ _ _ _ _ _ => noBad g2 i c hc hn⟩
      refine ⟨_, rfl, d, n, rows, [], by rw [txt_empty]; rfl, ((t10.same s11).same s12).tbl, by decide, by decide, fun _ H13 s13 => ?_, fun i c hc hn _ _ _ _ _ _ => noBad g0 i c hc hn⟩
      refine ⟨by show 3 ≤ sizeLine; decide, fun fo nfo => ?_⟩
      have s14 : Same H10 (upd H13 fo (.lst [tv (valL n rows (wd s1 c1)), tv (valL n rows (wd s2 c2)), tv (valL n rows [])])) := (s11.trans (s12.trans s13)).trans (same_upd nfo)
      have hfo : (upd H13 fo (.lst [tv (valL n rows (wd s1 c1)), tv (valL n rows (wd s2 c2)), tv (valL n rows [])])) fo = some (.lst [tv (valL n rows (wd s1 c1)), tv (valL n rows (wd s2 c2)), tv (valL n rows [])]) := upd_same
      have nfob : fo ≠ b := (B10.same (s11.trans (s12.trans s13))).nb nfo
      generalize upd H13 fo (.lst [tv (valL n rows (wd s1 c1)), tv (valL n rows (wd s2 c2)), tv (valL n rows [])]) = H14 at s14 hfo ⊢
      have t14 := t10.same s14
      -- same as due
      refine ⟨_, rfl, _, rfl, _, rfl, d, n, rows, wd s1 c1, rfl, t14, by omega, by rw [e1]; omega, g1, fun H15 s15 => ?_⟩
      refine ⟨_, rfl, _, rfl, d, n, rows, wd s2 c2, rfl, t14.same s15, by omega, by rw [e2]; omega, g2, fun H16 s16 => ?_⟩
      refine ⟨_, rfl, d, n, rows, rfl, (t14.same s15).same s16, fun H17 s17 => ?_⟩
      refine ⟨49, sizeN n rows, (by decide +kernel), rfl, by omega, (by show 3 ≤ sizeLine; decide), fun du ndu => ?_⟩
      have s18 : Same H14 (upd H17 du (.lst [tv (valL n rows (wd s1 c1)), tv (valL n rows (wd s2 c2)), tv (List.replicate (sizeN n rows) 49)])) := (s15.trans (s16.trans s17)).trans (same_upd ndu)
      have hdu : (upd H17 du (.lst [tv (valL n rows (wd s1 c1)), tv (valL n rows (wd s2 c2)), tv (List.replicate (sizeN n rows) 49)])) du = some (.lst [tv (valL n rows (wd s1 c1)), tv (valL n rows (wd s2 c2)), tv (List.replicate (sizeN n rows) 49)]) := upd_same
      refine ⟨_, _, rfl, ?_, fun H19 s19 => ⟨true, rfl, iteF ?_⟩⟩
      · refine eqv_tvs (ns := [valL n rows (wd s1 c1), valL n rows (wd s2 c2), List.replicate (sizeN n rows) 49]) ?_ hdu (by show 3 ≤ 10000; decide)
        have e := s18 _ _ hfo
        rw [val_nil] at e
        exact e
      have sA := s18.trans s19
      have t19 := t14.same sA
      have B19 : Bag H19 b l := (B10.same s14).same sA
      have hfo19 := sA _ _ hfo
      have K19 : Kp b H1 H19 := K10.trans (fun p o _ hp => sA _ _ (s14 _ _ hp))
      -- the keys moved
      refine ⟨_, rfl, _, rfl, b, l, d, n, rows, rfl, B19, t19, fun H20 pk rows' k20 B20 npk tk20 pr => ?_⟩
      have hfo20 := k20 _ _ nfob hfo19
      refine ⟨_, rfl, pk, n, rows', wd s2 c2, rfl, tk20.tbl, by omega, by rw [e2]; omega, fun _ H21 s21 => ?_, fun i c hc hn _ _ _ _ _ _ => ?_⟩
      rotate_left
      · rw [lookup_perm pr t19.once] at hn
        exact noBad g2 i c hc hn
      have hfo21 := s21 _ _ hfo20
      have t21 := (t19.keep ndb k20).same s21
      refine ⟨_, rfl, fo, _, 1, tv (valL n rows (wd s2 c2)), rfl, rfl, SqL.of hfo21, rfl, rfl, _, rfl, ?_⟩
      refine ifF (by rw [val_perm pr t19.once]; simp) ?_
      have B21 := B20.same s21
      have K21 : Kp b H1 H21 := K19.trans (k20.trans (fun p o _ hp => s21 _ _ hp))
      -- the product
      have ej : joinL [wd s1 c1, wd s2 c2] = wd (s1 != s2) (c1 ++ c2) := join_wd lt1 lt2
      have lt12 : Lt (c1 ++ c2) := fun c h => by
        rcases List.mem_append.mp h with h | h
        · exact lt1 c h
        · exact lt2 c h
      have e12 : lettersL (wd (s1 != s2) (c1 ++ c2)) = c1 ++ c2 := letters_wd lt12
      have g12 : goodW rows (lettersL (joinL [wd s1 c1, wd s2 c2])) := by
        rw [ej, e12]
        exact good_of fun c h => by
          rcases List.mem_append.mp h with h | h
          · exact m1 c h
          · exact m2 c h
      have l12 : (joinL [wd s1 c1, wd s2 c2]).length ≤ 20 := by
        rw [ej, wd_len, List.length_append]
        cases (s1 != s2) <;> simp <;> omega
      have ll12 : (lettersL (joinL [wd s1 c1, wd s2 c2])).length ≤ 19 := by
        rw [ej, e12, List.length_append]
        omega
      have sv1 : Sn (sizeN n rows) (valL n rows (wd s1 c1)) := val_sn t21.tbl.all lt1
      have sv2 : Sn (sizeN n rows) (valL n rows (wd s2 c2)) := val_sn t21.tbl.all lt2
      refine ⟨_, rfl, _, rfl, _, rfl, [wd s1 c1, wd s2 c2], rfl, ⟨by show 2 ≤ 10; decide, ?_⟩, fun H22 s22 => ?_⟩
      · intro x hx
        rcases List.mem_cons.mp hx with rfl | hx
        · omega
        · rw [List.mem_singleton.mp hx]; omega
      refine ⟨d, n, rows, joinL [wd s1 c1, wd s2 c2], rfl, (t21.same s22).tbl, l12, ll12, fun _ H23 s23 => ?_, fun i c hc hn _ _ _ _ _ _ => noBad g12 i c hc hn⟩
      have hfo23 := s23 _ _ (s22 _ _ hfo21)
      refine ⟨_, rfl, fo, _, 0, tv (valL n rows (wd s1 c1)), rfl, rfl, SqL.of hfo23, rfl, _, rfl, fo, _, 1, tv (valL n rows (wd s2 c2)), rfl, rfl, SqL.of hfo23, rfl, ?_⟩
      refine ⟨sizeN n rows, [valL n rows (wd s1 c1), valL n rows (wd s2 c2)], rfl, few9, by show 2 ≤ 20; decide, ?_, fun H24 s24 => ⟨rfl, _, rfl, ?_⟩⟩
      · intro x hx
        rcases List.mem_cons.mp hx with rfl | hx
        · exact sv1
        · rw [List.mem_singleton.mp hx]; exact sv2
      have eprod : valL n rows (joinL [wd s1 c1, wd s2 c2]) = multL [valL n rows (wd s1 c1), valL n rows (wd s2 c2)] := by
        rw [ej, val_join t21.tbl.all lt1 lt2]
        rfl
      refine ifF (by rw [eprod]; simp) ?_
      have s2124 := s22.trans (s23.trans s24)
      have t24 := t21.same s2124
      have B24 := B21.same s2124
      have K24 : Kp b H1 H24 := K21.trans (fun p o _ hp => s2124 _ _ hp)
      -- a strange letter
      refine ⟨_, rfl, rfl, _, rfl, fun D2 nD2 => ?_⟩
      rw [txt_alpha]
      have hsz : (txt alpha).cps.size = alpha.length := txt_len _
      refine lc_it (walk_str (z := txt alpha)) (fun i J => Same H24 J ∧ ∃ cs : List Nat, J D2 = some (.lst (cs.map sig)) ∧ cs.length ≤ i ∧ ∀ c ∈ cs, rows.lookup c = none) ⟨same_upd nD2, [], upd_same, Nat.le_refl _, fun c hc => by cases hc⟩ (fun _ _ _ _ => trivial) ?_ ?_
      · rintro i v J J' hi ⟨sJ, cs, hD, hl, hn⟩ ⟨rfl, c, hc, rfl⟩
        rw [hsz] at hi
        have hi2 : i < 24 := hi
        refine ⟨rfl, ?_⟩
        refine ⟨_, rfl, _, rfl, d, _, rfl, DGet.k (k := Sum.inr (txt [c])) (sJ _ _ t24.tbl.at_), _, rfl, ?_⟩
        rw [rowsK_at]
        cases el : rows.lookup c with
        | some x => exact iteF ⟨sJ, cs, hD, by omega, hn⟩
        | none =>
          refine iteT ⟨_, rfl, _, hD, by rw [List.length_map]; exact small1000 (by omega), same_put sJ nD2, cs ++ [c], ?_, by rw [List.length_append]; show _ + 1 ≤ _; omega, ?_⟩
          · rw [upd_same, List.map_append]
            rfl
          · intro c' hc'
            rcases List.mem_append.mp hc' with hc' | hc'
            · exact hn c' hc'
            · rw [List.mem_singleton.mp hc']; exact el
      rintro J ⟨sJ, cs, hD, hl, hn⟩
      rw [hsz] at hl
      have hl24 : cs.length ≤ 24 := hl
      refine ⟨by show 2 ≤ sizeLine; decide, fun l2' nl2 => ?_⟩
      refine ⟨D2, l2', _, _, rfl, rfl, (same_upd nl2) _ _ hD, upd_same, ?_, fun q2 nq2 => ?_⟩
      · rw [List.length_map]
        exact Nat.le_of_lt (small1000 (by show _ + 2 ≤ 1000; omega))
      have notAbc : ∀ c, c ∉ alpha → rows.lookup c = none := by
        intro c hc
        cases el : rows.lookup c with
        | none => rfl
        | some x => exact absurd (t24.abc _ (lookup_mem el)) hc
      have s27 : Same H24 (upd (upd J l2' (.lst [.str (Str.ofString "-"), .str (Str.ofString "?")])) q2 (.lst (cs.map sig ++ [.str (Str.ofString "-"), .str (Str.ofString "?")]))) := (sJ.trans (same_upd nl2)).trans (same_upd nq2)
      have nq2b : q2 ≠ b := (B24.same (sJ.trans (same_upd nl2))).nb nq2
      refine ⟨b, l, .ref q2, _, rfl, B24.same s27, .inl ⟨q2, rfl, nq2b, SqL.of upd_same⟩, ?_, ?_, fun H28 x k28 B28 hx => ?_⟩
      · rw [List.length_append]
        show 0 < _ + 2
        omega
      · rw [List.length_append, List.length_map]
        show _ + 2 < _
        omega
      have t28 := (t24.same s27).keep ndb k28
      have K28 : Kp b H1 H28 := (K24.trans (fun p o _ hp => s27 _ _ hp)).trans k28
      obtain ⟨c0, rfl, hn0⟩ : ∃ c0, x = sig c0 ∧ rows.lookup c0 = none := by
        rcases List.mem_append.mp hx with hx | hx
        · obtain ⟨c, hc, rfl⟩ := List.mem_map.mp hx
          exact ⟨c, rfl, hn c hc⟩
        · rcases List.mem_cons.mp hx with rfl | hx
          · exact ⟨45, congrArg V.str (by decide +kernel : Str.ofString "-" = txt [45]), notAbc 45 (by decide)⟩
          · rw [List.mem_singleton.mp hx]
            exact ⟨63, congrArg V.str (by decide +kernel : Str.ofString "?" = txt [63]), notAbc 63 (by decide)⟩
      -- where it is put
      refine ⟨_, rfl, _, rfl, wd s1 c1, rfl, by omega, _, rfl, ?_, ?_⟩
      · rw [e1, txt_len]
        exact Nat.le_of_lt (small1000 (by omega))
      rw [e1, txt_len]
      refine ⟨_, _, rfl, rfl, b, l, _, rfl, B28, by omega, by omega, fun H29 at_ k29 B29 a0 a1 => ?_⟩
      obtain ⟨k, rfl⟩ : ∃ k : Nat, at_ = (k : Nat) := ⟨at_.toNat, by omega⟩
      have kl : k ≤ c1.length := by omega
      have t29 := t28.keep ndb k29
      have K29 : Kp b H1 H29 := K28.trans k29
      have z1 : (txt (lettersL (wd s1 c1))).length ≤ sizeLine := by rw [e1, txt_len]; exact Nat.le_of_lt (small1000 (by omega))
      have tk : (c1.take k).length ≤ 9 := by rw [List.length_take]; omega
      have dk : (c1.drop k).length ≤ 9 := by rw [List.length_drop]; omega
      refine ⟨_, rfl, wd s1 c1, rfl, by omega, _, rfl, _, rfl, _, rfl, z1, ?_⟩
      rw [e1, cutS_take]
      refine ⟨_, _, rfl, rfl, ?_, ?_⟩
      · rw [txt_minus, txt_len, txt_len]
        exact Nat.le_of_lt (small1000 (by show 1 + _ ≤ 1000; omega))
      rw [txt_minus, txt_app]
      refine ⟨_, rfl, _, _, rfl, rfl, ?_, ?_⟩
      · have one : (⟨#[c0]⟩ : Str).length = 1 := rfl
        rw [txt_len, one, List.length_append]
        exact Nat.le_of_lt (small1000 (by show 1 + _ + 1 ≤ 1000; omega))
      refine ⟨_, rfl, wd s1 c1, rfl, by omega, _, rfl, _, rfl, _, rfl, z1, ?_⟩
      rw [e1, cutS_drop]
      have eb : txt ([45] ++ c1.take k) ++ (⟨#[c0]⟩ : Str) = txt (45 :: (c1.take k ++ [c0])) := txt_app ([45] ++ c1.take k) [c0]
      rw [eb]
      refine ⟨_, _, rfl, rfl, ?_, ?_⟩
      · rw [txt_len, txt_len]
        exact Nat.le_of_lt (small1000 (by simp; omega))
      rw [txt_app]
      have ebad : 45 :: (c1.take k ++ [c0]) ++ c1.drop k = 45 :: (c1.take k ++ c0 :: c1.drop k) := by simp
      rw [ebad]
      have T29 : Tabs [(PT, lamName)] H29 := tabs_keep T1 B1.hbl K29
      refine ⟨T29, fun H30 ext T30 => ?_⟩
      have bagN : Bag H30 b l := by
        obtain ⟨xs, i1, n1, s1', h1, h2, rest⟩ := B29
        exact ⟨xs, i1, n1, s1', ext _ _ h1 (fun ps e => by cases e), ext _ _ h2 (fun ps e => by cases e), rest⟩
      have t30 : Tbl H30 d n rows := ⟨ext _ _ t29.tbl.at_ (fun ps e => by cases e), t29.tbl.few, t29.tbl.all, t29.tbl.small⟩
      have lb : lettersL (45 :: (c1.take k ++ c0 :: c1.drop k)) = c1.take k ++ c0 :: c1.drop k := rfl
      have lk2 : (c1.take k).length = k := by rw [List.length_take]; omega
      refine ⟨_, rfl, _, rfl, d, n, rows, 45 :: (c1.take k ++ c0 :: c1.drop k), rfl, t30, ?_, ?_, fun g => ?_, fun i' c' hc hn' hg H31 dd s31 ndd hdd => ?_⟩
      · simp; omega
      · rw [lb]; simp; omega
      · obtain ⟨x, hx⟩ := g c0 (by rw [lb]; simp)
        rw [hn0] at hx
        cases hx
      have ik : i' = k := by
        rw [lb] at hc hg
        rcases Nat.lt_trichotomy i' k with lt | eq | gt
        · rw [List.getElem?_append_left (by omega)] at hc
          obtain ⟨x, hx⟩ := good_of m1 c' (List.mem_of_mem_take (List.mem_of_getElem? hc))
          rw [hn'] at hx
          cases hx
        · exact eq
        · obtain ⟨x, hx⟩ := hg c0 (by
            rw [List.take_append, lk2]
            obtain ⟨j, hj⟩ : ∃ j, i' - k = j + 1 := ⟨i' - k - 1, by omega⟩
            rw [hj, List.take_succ_cons]
            simp)
          rw [hn0] at hx
          cases hx
      subst ik
      have ea : attrOf "invalidword" = some "position" := by decide +kernel
      refine ⟨true, x1, fun z => Bool.noConfusion z, "invalidword", .int (i' : Nat), ⟨CI, dd, _, rfl, xf, nc, rfl, hdd, ?_, ?_⟩, fun H32 t32 s32 nt32 => ?_⟩
      · have h1 : (("code" : Str) == "position") = false := by decide +kernel
        have h2 : (("code" : Str) == "code") = true := by decide +kernel
        simp only [List.lookup_cons, h1, h2]
      · rw [ea]
        have h3 : (("position" : Str) == "position") = true := by decide +kernel
        exact ⟨hpos, by simp only [List.lookup_cons, h3]⟩
      have bag32 : Bag H32 b l := (bagN.same s31).same s32
      have so : PyData.strOk (Str.ofString "invalidword") = true := by decide +kernel
      have shp : SeqAt.shaped (.tuple [.str (Str.ofString "invalidword"), .int ((i' : Nat) : Int)]) = true := by
        simp [SeqAt.shaped, PyData.canLay0, PyData.canLayAll0, PyData.depth, PyData.depthAll, so]
      refine ⟨_, rfl, by show 2 ≤ sizeLine; decide, fun t33 nt33 => ?_⟩
      refine ⟨_, _, .tup (SqT.of ((same_upd nt33) _ _ upd_same)) (.cons (.str _) (.cons (.int _) .nil)), .tup (SqT.of upd_same) (.cons (.str _) (.cons (.int _) .nil)), ?_, ?_, _, rfl, ?_⟩
      · exact shp
      · exact shp
      refine ifF ?_ ?_
      · rw [SeqAt.eqv_refl _ (SeqAt.canLay_of_shaped shp)]
        rfl
      refine ⟨_, _, _, _, _, _, _, _, _, _, _, _, rfl, (bag32.new nt32).new nt33, ?_⟩
      exact tabs_same (tabs_same (tabs_same T30 s31) s32) ((same_upd nt32).trans (same_upd nt33))
    · rintro σ H1 ⟨y2, y3, y4, y5, y6, y7, y8, y9, y10, y11, y12, y13, rfl, B1, T1⟩
      have gnil : goodW [] [] := fun c hc => by cases hc
      intro d1 nd1
      refine ⟨d1, 0, [], [], by rw [txt_empty]; rfl, ⟨upd_same, by decide, fun r hr' => (by cases hr'), by decide⟩, by decide, by decide, fun _ H2 s2 => ?_, fun i' c' hc => by cases hc⟩
      intro d2 nd2
      refine ⟨d2, 0, [], [45], by rw [txt_minus]; rfl, ⟨upd_same, by decide, fun r hr' => (by cases hr'), by decide⟩, by decide, by decide, fun _ H3 s3 => ?_, fun i' c' hc => by cases hc⟩
      refine ⟨by show 2 ≤ sizeLine; decide, fun f1 nf1 => ⟨by show 2 ≤ sizeLine; decide, fun f2 nf2 => ⟨_, _, rfl, ?_, fun H' _ => hand H'⟩⟩⟩
      have v1 : valL 0 [] [] = [] := by decide
      have v2 : valL 0 [] [45] = [45] := by decide
      refine eqv_tvs (ns := [[], [45]]) ?_ ?_ (by show 2 ≤ 10000; decide)
      · rw [v1, v2]
        exact (same_upd nf2) _ _ upd_same
      · rw [upd_same, txt_empty, txt_minus]
        rfl
end


end T25

namespace T25
open PySem PySem.Spec PyProof.Rows L2 Tm
open LamX L2H
theorem all_mk {l : PySem.W.OpenLaw} {w : World} {K : PySem.W.Frag} {h : Heap} {mg : Str → Option Value} {fa CI CT CM pd c fL fSg fSd fIs fCs fTw fMul fId fZo fV fPr fB fP fO fM fE fFi fTr fA fY fLs fT fTb fTi fTA fW fZ fU fK flaw fXI : Addr} (PT : Addr) {nm q N bs bm sn sub ab col dd k0 k1 k2 k3 k5} (X : K.In h) (G : h.Ns mainGlobals mg) (hfa : mg "law" = some (.ref fa))
    (empty : h.get? PT = some { cls := .none, data := .fields #[] })
    {odL odSg odSd odIs odCs odTw odMul odId odZo odV odPr odB odP odO odM odE odFi odTr odA odY odLs odT odTb odTi odTA odW odZ odU odK odlaw odXI anL anSg anSd anIs anCs anTw anMul anId anZo anV anPr anB anP anO anM anE anFi anTr anA anY anLs anT anTb anTi anTA anW anZ anU anK anlaw anXI : Option Addr} {slL slSg slSd slIs slCs slTw slMul slId slZo slV slPr slB slP slO slM slE slFi slTr slA slY slLs slT slTb slTi slTA slW slZ slU slK sllaw slXI : Array (Option Value)} {ocL ocSg ocSd ocIs ocCs ocTw ocMul ocId ocZo ocV ocPr ocB ocP ocO ocM ocE ocFi ocTr ocA ocY ocLs ocT ocTb ocTi ocTA ocW ocZ ocU ocK oclaw ocXI kVL kVSg kVSd kVIs kVCs kVTw kVMul kVId kVZo kVV kVPr kVB kVP kVO kVM kVE kVFi kVTr kVA kVY kVLs kVT kVTb kVTi kVTA kVW kVZ kVU kVK kVlaw kVXI dcL dcSg dcSd dcIs dcCs dcTw dcMul dcId dcZo dcV dcPr dcB dcP dcO dcM dcE dcFi dcTr dcA dcY dcLs dcT dcTb dcTi dcTA dcW dcZ dcU dcK dclaw dcXI pmL pmSg pmSd pmIs pmCs pmTw pmMul pmId pmZo pmV pmPr pmB pmP pmO pmM pmE pmFi pmTr pmA pmY pmLs pmT pmTb pmTi pmTA pmW pmZ pmU pmK pmlaw pmXI cdL cdSg cdSd cdIs cdCs cdTw cdMul cdId cdZo cdV cdPr cdB cdP cdO cdM cdE cdFi cdTr cdA cdY cdLs cdT cdTb cdTi cdTA cdW cdZ cdU cdK cdXI ctL ctSg ctSd ctIs ctCs ctTw ctMul ctId ctZo ctV ctPr ctB ctP ctO ctM ctE ctFi ctTr ctA ctY ctLs ctT ctTb ctTi ctTA ctW ctZ ctU ctK ctlaw ctXI : Value} {es : Array DictEntry} {dn : Nat} {ta t0 t1 t2 t3 t4 t5 t6 t7 t8 t9 t10 t11 t12 t13 t14 t15 : Tok}
    (aL : PySem.W.nsIn K mainGlobals "letters_of" = some (some (.ref fL)))
    (lL : K.lookup fL = some ⟨ocL, odL, .func (PySem.W.fnOf "letters_of" "letters_of" (defArgs sLettersOf) (defBody sLettersOf) (defScope sLettersOf) .none kVL dcL pmL anL cdL ctL), slL⟩)
    (cL : PySem.W.codeIn K cdL "letters_of" = true)
    (kL : PySem.W.keepIn K (.ref fL) = true)
    (aSg : PySem.W.nsIn K mainGlobals "sign_of" = some (some (.ref fSg)))
    (lSg : K.lookup fSg = some ⟨ocSg, odSg, .func (PySem.W.fnOf "sign_of" "sign_of" (defArgs sSignOf) (defBody sSignOf) (defScope sSignOf) .none kVSg dcSg pmSg anSg cdSg ctSg), slSg⟩)
    (cSg : PySem.W.codeIn K cdSg "sign_of" = true)
    (kSg : PySem.W.keepIn K (.ref fSg) = true)
    (aSd : PySem.W.nsIn K mainGlobals "signed" = some (some (.ref fSd)))
    (lSd : K.lookup fSd = some ⟨ocSd, odSd, .func (PySem.W.fnOf "signed" "signed" (defArgs sSigned) (defBody sSigned) (defScope sSigned) .none kVSd dcSd pmSd anSd cdSd ctSd), slSd⟩)
    (cSd : PySem.W.codeIn K cdSd "signed" = true)
    (kSd : PySem.W.keepIn K (.ref fSd) = true)
    (aIs : PySem.W.nsIn K mainGlobals "is_string" = some (some (.ref fIs)))
    (lIs : K.lookup fIs = some ⟨ocIs, odIs, .func (PySem.W.fnOf "is_string" "is_string" (defArgs sIsStr) (defBody sIsStr) (defScope sIsStr) .none kVIs dcIs pmIs anIs cdIs ctIs), slIs⟩)
    (cIs : PySem.W.codeIn K cdIs "is_string" = true)
    (kIs : PySem.W.keepIn K (.ref fIs) = true)
    (aCs : PySem.W.nsIn K mainGlobals "check_string" = some (some (.ref fCs)))
    (lCs : K.lookup fCs = some ⟨ocCs, odCs, .func (PySem.W.fnOf "check_string" "check_string" (defArgs sChkS) (defBody sChkS) (defScope sChkS) .none kVCs dcCs pmCs anCs cdCs ctCs), slCs⟩)
    (cCs : PySem.W.codeIn K cdCs "check_string" = true)
    (kCs : PySem.W.keepIn K (.ref fCs) = true)
    (aTw : PySem.W.nsIn K mainGlobals "product_of_two" = some (some (.ref fTw)))
    (lTw : K.lookup fTw = some ⟨ocTw, odTw, .func (PySem.W.fnOf "product_of_two" "product_of_two" (defArgs sTwo) (defBody sTwo) (defScope sTwo) .none kVTw dcTw pmTw anTw cdTw ctTw), slTw⟩)
    (cTw : PySem.W.codeIn K cdTw "product_of_two" = true)
    (kTw : PySem.W.keepIn K (.ref fTw) = true)
    (aMul : PySem.W.nsIn K mainGlobals "multiply" = some (some (.ref fMul)))
    (lMul : K.lookup fMul = some ⟨ocMul, odMul, .func (PySem.W.fnOf "multiply" "multiply" (defArgs sMult) (defBody sMult) (defScope sMult) .none kVMul dcMul pmMul anMul cdMul ctMul), slMul⟩)
    (cMul : PySem.W.codeIn K cdMul "multiply" = true)
    (kMul : PySem.W.keepIn K (.ref fMul) = true)
    (aId : PySem.W.nsIn K mainGlobals "identity" = some (some (.ref fId)))
    (lId : K.lookup fId = some ⟨ocId, odId, .func (PySem.W.fnOf "identity" "identity" (defArgs sIden) (defBody sIden) (defScope sIden) .none kVId dcId pmId anId cdId ctId), slId⟩)
    (cId : PySem.W.codeIn K cdId "identity" = true)
    (kId : PySem.W.keepIn K (.ref fId) = true)
    (aZo : PySem.W.nsIn K mainGlobals "size_of" = some (some (.ref fZo)))
    (lZo : K.lookup fZo = some ⟨ocZo, odZo, .func (PySem.W.fnOf "size_of" "size_of" (defArgs sSizeOf) (defBody sSizeOf) (defScope sSizeOf) .none kVZo dcZo pmZo anZo cdZo ctZo), slZo⟩)
    (cZo : PySem.W.codeIn K cdZo "size_of" = true)
    (kZo : PySem.W.keepIn K (.ref fZo) = true)
    (aV : PySem.W.nsIn K mainGlobals "value_of" = some (some (.ref fV)))
    (lV : K.lookup fV = some ⟨ocV, odV, .func (PySem.W.fnOf "value_of" "value_of" (defArgs sValueOf) (defBody sValueOf) (defScope sValueOf) .none kVV dcV pmV anV cdV ctV), slV⟩)
    (cV : PySem.W.codeIn K cdV "value_of" = true)
    (kV : PySem.W.keepIn K (.ref fV) = true)
    (aPr : PySem.W.nsIn K mainGlobals "product" = some (some (.ref fPr)))
    (lPr : K.lookup fPr = some ⟨ocPr, odPr, .func (PySem.W.fnOf "product" "product" (defArgs sProd) (defBody sProd) (defScope sProd) .none kVPr dcPr pmPr anPr cdPr ctPr), slPr⟩)
    (cPr : PySem.W.codeIn K cdPr "product" = true)
    (kPr : PySem.W.keepIn K (.ref fPr) = true)
    (aB : PySem.W.nsIn K mainGlobals "_law_bag" = some (some (.ref fB)))
    (lB : K.lookup fB = some ⟨ocB, odB, .func (PySem.W.fnOf "_law_bag" "_law_bag" (defArgs sBag) (defBody sBag) (defScope sBag) .none kVB dcB pmB anB cdB ctB), slB⟩)
    (cB : PySem.W.codeIn K cdB "_law_bag" = true)
    (kB : PySem.W.keepIn K (.ref fB) = true)
    (aP : PySem.W.nsIn K mainGlobals "_law_pull" = some (some (.ref fP)))
    (lP : K.lookup fP = some ⟨ocP, odP, .func (PySem.W.fnOf "_law_pull" "_law_pull" (defArgs sPull) (defBody sPull) (defScope sPull) .none kVP dcP pmP anP cdP ctP), slP⟩)
    (cP : PySem.W.codeIn K cdP "_law_pull" = true)
    (kP : PySem.W.keepIn K (.ref fP) = true)
    (aO : PySem.W.nsIn K mainGlobals "_law_of" = some (some (.ref fO)))
    (lO : K.lookup fO = some ⟨ocO, odO, .func (PySem.W.fnOf "_law_of" "_law_of" (defArgs sOf) (defBody sOf) (defScope sOf) .none kVO dcO pmO anO cdO ctO), slO⟩)
    (cO : PySem.W.codeIn K cdO "_law_of" = true)
    (kO : PySem.W.keepIn K (.ref fO) = true)
    (aM : PySem.W.nsIn K mainGlobals "_law_mixed" = some (some (.ref fM)))
    (lM : K.lookup fM = some ⟨ocM, odM, .func (PySem.W.fnOf "_law_mixed" "_law_mixed" (defArgs sMixed) (defBody sMixed) (defScope sMixed) .none kVM dcM pmM anM cdM ctM), slM⟩)
    (cM : PySem.W.codeIn K cdM "_law_mixed" = true)
    (kM : PySem.W.keepIn K (.ref fM) = true)
    (aE : PySem.W.nsIn K mainGlobals "_law_same" = some (some (.ref fE)))
    (lE : K.lookup fE = some ⟨ocE, odE, .func (PySem.W.fnOf "_law_same" "_law_same" (defArgs sSame) (defBody sSame) (defScope sSame) .none kVE dcE pmE anE cdE ctE), slE⟩)
    (cE : PySem.W.codeIn K cdE "_law_same" = true)
    (kE : PySem.W.keepIn K (.ref fE) = true)
    (aFi : PySem.W.nsIn K mainGlobals "_law_field" = some (some (.ref fFi)))
    (lFi : K.lookup fFi = some ⟨ocFi, odFi, .func (PySem.W.fnOf "_law_field" "_law_field" (defArgs sField) (defBody sField) (defScope sField) .none kVFi dcFi pmFi anFi cdFi ctFi), slFi⟩)
    (cFi : PySem.W.codeIn K cdFi "_law_field" = true)
    (kFi : PySem.W.keepIn K (.ref fFi) = true)
    (aTr : PySem.W.nsIn K mainGlobals "_law_tried" = some (some (.ref fTr)))
    (lTr : K.lookup fTr = some ⟨ocTr, odTr, .func (PySem.W.fnOf "_law_tried" "_law_tried" (defArgs sTried) (defBody sTried) (defScope sTried) .none kVTr dcTr pmTr anTr cdTr ctTr), slTr⟩)
    (cTr : PySem.W.codeIn K cdTr "_law_tried" = true)
    (kTr : PySem.W.keepIn K (.ref fTr) = true)
    (aA : PySem.W.nsIn K mainGlobals "_law_letters" = some (some (.ref fA)))
    (lA : K.lookup fA = some ⟨ocA, odA, .func (PySem.W.fnOf "_law_letters" "_law_letters" (defArgs sLets) (defBody sLets) (defScope sLets) .none kVA dcA pmA anA cdA ctA), slA⟩)
    (cA : PySem.W.codeIn K cdA "_law_letters" = true)
    (kA : PySem.W.keepIn K (.ref fA) = true)
    (aY : PySem.W.nsIn K mainGlobals "_law_body" = some (some (.ref fY)))
    (lY : K.lookup fY = some ⟨ocY, odY, .func (PySem.W.fnOf "_law_body" "_law_body" (defArgs sLBody) (defBody sLBody) (defScope sLBody) .none kVY dcY pmY anY cdY ctY), slY⟩)
    (cY : PySem.W.codeIn K cdY "_law_body" = true)
    (kY : PySem.W.keepIn K (.ref fY) = true)
    (aLs : PySem.W.nsIn K mainGlobals "_law_signed" = some (some (.ref fLs)))
    (lLs : K.lookup fLs = some ⟨ocLs, odLs, .func (PySem.W.fnOf "_law_signed" "_law_signed" (defArgs sLSigned) (defBody sLSigned) (defScope sLSigned) .none kVLs dcLs pmLs anLs cdLs ctLs), slLs⟩)
    (cLs : PySem.W.codeIn K cdLs "_law_signed" = true)
    (kLs : PySem.W.keepIn K (.ref fLs) = true)
    (aT : PySem.W.nsIn K mainGlobals "_law_text" = some (some (.ref fT)))
    (lT : K.lookup fT = some ⟨ocT, odT, .func (PySem.W.fnOf "_law_text" "_law_text" (defArgs sLText) (defBody sLText) (defScope sLText) .none kVT dcT pmT anT cdT ctT), slT⟩)
    (cT : PySem.W.codeIn K cdT "_law_text" = true)
    (kT : PySem.W.keepIn K (.ref fT) = true)
    (aTb : PySem.W.nsIn K mainGlobals "_law_table_of_products" = some (some (.ref fTb)))
    (lTb : K.lookup fTb = some ⟨ocTb, odTb, .func (PySem.W.fnOf "_law_table_of_products" "_law_table_of_products" (defArgs sLTab) (defBody sLTab) (defScope sLTab) .none kVTb dcTb pmTb anTb cdTb ctTb), slTb⟩)
    (cTb : PySem.W.codeIn K cdTb "_law_table_of_products" = true)
    (kTb : PySem.W.keepIn K (.ref fTb) = true)
    (aTi : PySem.W.nsIn K mainGlobals "_law_times" = some (some (.ref fTi)))
    (lTi : K.lookup fTi = some ⟨ocTi, odTi, .func (PySem.W.fnOf "_law_times" "_law_times" (defArgs sLTimes) (defBody sLTimes) (defScope sLTimes) .none kVTi dcTi pmTi anTi cdTi ctTi), slTi⟩)
    (cTi : PySem.W.codeIn K cdTi "_law_times" = true)
    (kTi : PySem.W.keepIn K (.ref fTi) = true)
    (aTA : PySem.W.nsIn K mainGlobals "_law_times_all" = some (some (.ref fTA)))
    (lTA : K.lookup fTA = some ⟨ocTA, odTA, .func (PySem.W.fnOf "_law_times_all" "_law_times_all" (defArgs sLTAll) (defBody sLTAll) (defScope sLTAll) .none kVTA dcTA pmTA anTA cdTA ctTA), slTA⟩)
    (cTA : PySem.W.codeIn K cdTA "_law_times_all" = true)
    (kTA : PySem.W.keepIn K (.ref fTA) = true)
    (aW : PySem.W.nsIn K mainGlobals "_law_string" = some (some (.ref fW)))
    (lW : K.lookup fW = some ⟨ocW, odW, .func (PySem.W.fnOf "_law_string" "_law_string" (defArgs sLString) (defBody sLString) (defScope sLString) .none kVW dcW pmW anW cdW ctW), slW⟩)
    (cW : PySem.W.codeIn K cdW "_law_string" = true)
    (kW : PySem.W.keepIn K (.ref fW) = true)
    (aZ : PySem.W.nsIn K mainGlobals "_law_size" = some (some (.ref fZ)))
    (lZ : K.lookup fZ = some ⟨ocZ, odZ, .func (PySem.W.fnOf "_law_size" "_law_size" (defArgs sLSize) (defBody sLSize) (defScope sLSize) .none kVZ dcZ pmZ anZ cdZ ctZ), slZ⟩)
    (cZ : PySem.W.codeIn K cdZ "_law_size" = true)
    (kZ : PySem.W.keepIn K (.ref fZ) = true)
    (aU : PySem.W.nsIn K mainGlobals "_law_value" = some (some (.ref fU)))
    (lU : K.lookup fU = some ⟨ocU, odU, .func (PySem.W.fnOf "_law_value" "_law_value" (defArgs sLValue) (defBody sLValue) (defScope sLValue) .none kVU dcU pmU anU cdU ctU), slU⟩)
    (cU : PySem.W.codeIn K cdU "_law_value" = true)
    (kU : PySem.W.keepIn K (.ref fU) = true)
    (aK : PySem.W.nsIn K mainGlobals "_law_keys_moved" = some (some (.ref fK)))
    (lK : K.lookup fK = some ⟨ocK, odK, .func (PySem.W.fnOf "_law_keys_moved" "_law_keys_moved" (defArgs sKeys) (defBody sKeys) (defScope sKeys) .none kVK dcK pmK anK cdK ctK), slK⟩)
    (cK : PySem.W.codeIn K cdK "_law_keys_moved" = true)
    (kK : PySem.W.keepIn K (.ref fK) = true)
    (alaw : PySem.W.nsIn K mainGlobals "law" = some (some (.ref flaw)))
    (llaw : K.lookup flaw = some ⟨oclaw, odlaw, .func (PySem.W.fnOf "law" "law" (defArgs sLaw) (defBody sLaw) (defScope sLaw) .none kVlaw dclaw pmlaw anlaw (.ref c) ctlaw), sllaw⟩)
    (claw : PySem.W.codeIn K (.ref c) "law" = true)
    (klaw : PySem.W.keepIn K (.ref flaw) = true)
    (aXI : PySem.W.findIn K (.ref CI) "__init__" = some (some (.ref fXI)))
    (lXI : K.lookup fXI = some ⟨ocXI, odXI, .func (PySem.W.fnOf "__init__" "InvalidWord.__init__" (defArgs sIW) (defBody sIW) (defScope sIW) .none kVXI dcXI pmXI anXI cdXI ctXI), slXI⟩)
    (cXI : PySem.W.codeIn K cdXI "InvalidWord.__init__" = true)
    (kXI : PySem.W.keepIn K (.ref fXI) = true)
    (aI : PySem.W.nsIn K mainGlobals "InvalidWord" = some (some (.ref CI)))
    (aCT : PySem.W.nsIn K mainGlobals "ThreadError" = some (some (.ref CT)))
    (aCM : PySem.W.nsIn K mainGlobals "Missing" = some (some (.ref CM)))
    (tX : PySem.W.typeIn K (.ref fXI) = some (.type "function"))
    (sa : PySem.W.findIn K (.ref CI) "__setattr__" = some (some (.builtin "object.__setattr__")))
    (exC : PySem.W.subIn K (.ref CI) (.type "BaseException") = some true)
    (tyC : PySem.W.typeIn K (.ref CI) = some (.type "type"))
    (kC : PySem.W.keepIn K (.ref CI) = true)
    (cls : K.lookup CI = some (excClassObj nm q CI N bs bm true sn sub ab col dd k0 k1 k2 k3 k5 "ValueError.__new__"))
    (rv : PySem.HandSPX.refsVE bm = true)
    (nc : PySem.W.findIn K (.ref CI) "code" = some none)
    (np : PySem.W.findIn K (.ref CI) "position" = some none)
    (x1 : PySem.W.exmOne K (.ref CI) (.ref CT) = some true)
    (xf : xfB K CI = true)
    (hcode : PySem.W.codeHdIn K c PT = true)
    (noP : K.lookup PT = none)
    (slt : PySem.W.nsIn K mainGlobals "STRING_LETTERS" = some (some (.str (Str.ofString "1XZW") ta)))
    (d1 : PySem.W.nsIn K mainGlobals "PRODUCTS" = some (some (.ref pd)))
    (d2 : K.lookup pd = some ⟨.type "dict", none, .dict es dn, #[]⟩)
    (d3 : PySem.W.KeysLit w.params es.toList)
    (q0 : PySem.W.nsIn K pd (Str.ofString "11") = some (some (.str (Str.ofString "1") t0)))
    (q1 : PySem.W.nsIn K pd (Str.ofString "1X") = some (some (.str (Str.ofString "X") t1)))
    (q2 : PySem.W.nsIn K pd (Str.ofString "1Z") = some (some (.str (Str.ofString "Z") t2)))
    (q3 : PySem.W.nsIn K pd (Str.ofString "1W") = some (some (.str (Str.ofString "W") t3)))
    (q4 : PySem.W.nsIn K pd (Str.ofString "X1") = some (some (.str (Str.ofString "X") t4)))
    (q5 : PySem.W.nsIn K pd (Str.ofString "XX") = some (some (.str (Str.ofString "1") t5)))
    (q6 : PySem.W.nsIn K pd (Str.ofString "XZ") = some (some (.str (Str.ofString "W") t6)))
    (q7 : PySem.W.nsIn K pd (Str.ofString "XW") = some (some (.str (Str.ofString "Z") t7)))
    (q8 : PySem.W.nsIn K pd (Str.ofString "Z1") = some (some (.str (Str.ofString "Z") t8)))
    (q9 : PySem.W.nsIn K pd (Str.ofString "ZX") = some (some (.str (Str.ofString "-W") t9)))
    (q10 : PySem.W.nsIn K pd (Str.ofString "ZZ") = some (some (.str (Str.ofString "1") t10)))
    (q11 : PySem.W.nsIn K pd (Str.ofString "ZW") = some (some (.str (Str.ofString "-X") t11)))
    (q12 : PySem.W.nsIn K pd (Str.ofString "W1") = some (some (.str (Str.ofString "W") t12)))
    (q13 : PySem.W.nsIn K pd (Str.ofString "WX") = some (some (.str (Str.ofString "-Z") t13)))
    (q14 : PySem.W.nsIn K pd (Str.ofString "WZ") = some (some (.str (Str.ofString "X") t14)))
    (q15 : PySem.W.nsIn K pd (Str.ofString "WW") = some (some (.str (Str.ofString "-1") t15)))
    (z_isinstance : PySem.W.nsIn K mainGlobals "isinstance" = some none)
    (z_dict : PySem.W.nsIn K mainGlobals "dict" = some none)
    (z_list : PySem.W.nsIn K mainGlobals "list" = some none)
    (z_tuple : PySem.W.nsIn K mainGlobals "tuple" = some none)
    (z_bool : PySem.W.nsIn K mainGlobals "bool" = some none)
    (z_int : PySem.W.nsIn K mainGlobals "int" = some none)
    (z_str : PySem.W.nsIn K mainGlobals "str" = some none)
    (z_len : PySem.W.nsIn K mainGlobals "len" = some none)
    (z_all : PySem.W.nsIn K mainGlobals "all" = some none)
    (z_zip : PySem.W.nsIn K mainGlobals "zip" = some none)
    (z_sorted : PySem.W.nsIn K mainGlobals "sorted" = some none)
    (z_range : PySem.W.nsIn K mainGlobals "range" = some none)
    (z_min : PySem.W.nsIn K mainGlobals "min" = some none)
    (z_sum : PySem.W.nsIn K mainGlobals "sum" = some none)
    (z_enumerate : PySem.W.nsIn K mainGlobals "enumerate" = some none)
    : LawAtS l w K CX0 10 63 "_law_script" mg fa h := by
  have e := hfa.symm.trans (PySem.W.mg_of X G alaw)
  cases e
  have FL := fun_mk (st := sLettersOf) lL cL kL
  have bL := FL.binds (ps := ["text"]) fun _ _ _ _ _ _ us hl => match us, hl with | [_], _ => rfl
  have FSg := fun_mk (st := sSignOf) lSg cSg kSg
  have bSg := FSg.binds (ps := ["text"]) fun _ _ _ _ _ _ us hl => match us, hl with | [_], _ => rfl
  have FSd := fun_mk (st := sSigned) lSd cSd kSd
  have bSd := FSd.binds (ps := ["turns", "letters"]) fun _ _ _ _ _ _ us hl => match us, hl with | [_, _], _ => rfl
  have FIs := fun_mk (st := sIsStr) lIs cIs kIs
  have bIs := FIs.binds (ps := ["text"]) fun _ _ _ _ _ _ us hl => match us, hl with | [_], _ => rfl
  have FCs := fun_mk (st := sChkS) lCs cCs kCs
  have bCs := FCs.binds (ps := ["text"]) fun _ _ _ _ _ _ us hl => match us, hl with | [_], _ => rfl
  have FTw := fun_mk (st := sTwo) lTw cTw kTw
  have bTw := FTw.binds (ps := ["one", "other"]) fun _ _ _ _ _ _ us hl => match us, hl with | [_, _], _ => rfl
  have FMul := fun_mk (st := sMult) lMul cMul kMul
  have FId := fun_mk (st := sIden) lId cId kId
  have bId := FId.binds (ps := ["size"]) fun _ _ _ _ _ _ us hl => match us, hl with | [_], _ => rfl
  have FZo := fun_mk (st := sSizeOf) lZo cZo kZo
  have bZo := FZo.binds (ps := ["table"]) fun _ _ _ _ _ _ us hl => match us, hl with | [_], _ => rfl
  have FV := fun_mk (st := sValueOf) lV cV kV
  have bV := FV.binds (ps := ["table", "word"]) fun _ _ _ _ _ _ us hl => match us, hl with | [_, _], _ => rfl
  have FPr := fun_mk (st := sProd) lPr cPr kPr
  have FB := fun_mk (st := sBag) lB cB kB
  have bB := FB.binds (ps := ["_law_script"]) fun _ _ _ _ _ _ us hl => match us, hl with | [_], _ => rfl
  have FP := fun_mk (st := sPull) lP cP kP
  have bP := FP.binds (ps := ["_law_bag_here", "_law_many"]) fun _ _ _ _ _ _ us hl => match us, hl with | [_, _], _ => rfl
  have FO := fun_mk (st := sOf) lO cO kO
  have bO := FO.binds (ps := ["_law_bag_here", "_law_things"]) fun _ _ _ _ _ _ us hl => match us, hl with | [_, _], _ => rfl
  have FM := fun_mk (st := sMixed) lM cM kM
  have bM := FM.binds (ps := ["_law_bag_here", "_law_things"]) fun _ _ _ _ _ _ us hl => match us, hl with | [_, _], _ => rfl
  have FE := fun_mk (st := sSame) lE cE kE
  have bE := FE.binds (ps := ["_law_found", "_law_due"]) fun _ _ _ _ _ _ us hl => match us, hl with | [_, _], _ => rfl
  have FFi := fun_mk (st := sField) lFi cFi kFi
  have bFi := FFi.binds (ps := ["_law_e"]) fun _ _ _ _ _ _ us hl => match us, hl with | [_], _ => rfl
  have FTr := fun_mk (st := sTried) lTr cTr kTr
  have bTr := FTr.binds (ps := ["_law_ask"]) fun _ _ _ _ _ _ us hl => match us, hl with | [_], _ => rfl
  have FA := fun_mk (st := sLets) lA cA kA
  have bA := FA.binds (ps := []) fun _ _ _ _ _ _ us hl => match us, hl with | [], _ => rfl
  have FY := fun_mk (st := sLBody) lY cY kY
  have bY := FY.binds (ps := ["_law_text_here"]) fun _ _ _ _ _ _ us hl => match us, hl with | [_], _ => rfl
  have FLs := fun_mk (st := sLSigned) lLs cLs kLs
  have bLs := FLs.binds (ps := ["_law_mturned", "_law_body_here"]) fun _ _ _ _ _ _ us hl => match us, hl with | [_, _], _ => rfl
  have FT := fun_mk (st := sLText) lT cT kT
  have bT := FT.binds (ps := ["_law_bag_here", "_law_raw", "_law_most"]) fun _ _ _ _ _ _ us hl => match us, hl with | [_, _, _], _ => rfl
  have FTb := fun_mk (st := sLTab) lTb cTb kTb
  have bTb := FTb.binds (ps := []) fun _ _ _ _ _ _ us hl => match us, hl with | [], _ => rfl
  have FTi := fun_mk (st := sLTimes) lTi cTi kTi
  have bTi := FTi.binds (ps := ["_law_first", "_law_last"]) fun _ _ _ _ _ _ us hl => match us, hl with | [_, _], _ => rfl
  have FTA := fun_mk (st := sLTAll) lTA cTA kTA
  have bTA := FTA.binds (ps := ["_law_strings_in", "_law_size_here"]) fun _ _ _ _ _ _ us hl => match us, hl with | [_, _], _ => rfl
  have FW := fun_mk (st := sLString) lW cW kW
  have bW := FW.binds (ps := ["_law_bag_here", "_law_size_here"]) fun _ _ _ _ _ _ us hl => match us, hl with | [_, _], _ => rfl
  have FZ := fun_mk (st := sLSize) lZ cZ kZ
  have bZ := FZ.binds (ps := ["_law_strings_in"]) fun _ _ _ _ _ _ us hl => match us, hl with | [_], _ => rfl
  have FU := fun_mk (st := sLValue) lU cU kU
  have bU := FU.binds (ps := ["_law_strings_in", "_law_text_here"]) fun _ _ _ _ _ _ us hl => match us, hl with | [_, _], _ => rfl
  have FK := fun_mk (st := sKeys) lK cK kK
  have bK := FK.binds (ps := ["_law_bag_here", "_law_things"]) fun _ _ _ _ _ _ us hl => match us, hl with | [_, _], _ => rfl
  have FXI := fun_mk (st := sIW) lXI cXI kXI
  have bXI := FXI.binds (ps := ["self", "position"]) fun _ _ _ _ _ _ us hl => match us, hl with | [_, _], _ => rfl
  have gL := PySem.W.mg_of X G aL
  have gSg := PySem.W.mg_of X G aSg
  have gSd := PySem.W.mg_of X G aSd
  have gIs := PySem.W.mg_of X G aIs
  have gCs := PySem.W.mg_of X G aCs
  have gTw := PySem.W.mg_of X G aTw
  have gMul := PySem.W.mg_of X G aMul
  have gId := PySem.W.mg_of X G aId
  have gZo := PySem.W.mg_of X G aZo
  have gV := PySem.W.mg_of X G aV
  have gPr := PySem.W.mg_of X G aPr
  have gB := PySem.W.mg_of X G aB
  have gP := PySem.W.mg_of X G aP
  have gO := PySem.W.mg_of X G aO
  have gM := PySem.W.mg_of X G aM
  have gE := PySem.W.mg_of X G aE
  have gFi := PySem.W.mg_of X G aFi
  have gTr := PySem.W.mg_of X G aTr
  have gA := PySem.W.mg_of X G aA
  have gY := PySem.W.mg_of X G aY
  have gLs := PySem.W.mg_of X G aLs
  have gT := PySem.W.mg_of X G aT
  have gTb := PySem.W.mg_of X G aTb
  have gTi := PySem.W.mg_of X G aTi
  have gTA := PySem.W.mg_of X G aTA
  have gW := PySem.W.mg_of X G aW
  have gZ := PySem.W.mg_of X G aZ
  have gU := PySem.W.mg_of X G aU
  have gK := PySem.W.mg_of X G aK
  have m_isinstance := PySem.W.mg_none_of X G z_isinstance
  have m_dict := PySem.W.mg_none_of X G z_dict
  have m_list := PySem.W.mg_none_of X G z_list
  have m_tuple := PySem.W.mg_none_of X G z_tuple
  have m_bool := PySem.W.mg_none_of X G z_bool
  have m_int := PySem.W.mg_none_of X G z_int
  have m_str := PySem.W.mg_none_of X G z_str
  have m_len := PySem.W.mg_none_of X G z_len
  have m_all := PySem.W.mg_none_of X G z_all
  have m_zip := PySem.W.mg_none_of X G z_zip
  have m_sorted := PySem.W.mg_none_of X G z_sorted
  have m_range := PySem.W.mg_none_of X G z_range
  have m_min := PySem.W.mg_none_of X G z_min
  have m_sum := PySem.W.mg_none_of X G z_sum
  have m_enumerate := PySem.W.mg_none_of X G z_enumerate
  have gA0 := PySem.W.mg_of X G slt
  have gD := PySem.W.mg_of X G d1
  have KD := kd_all d2 d3 (fun p hp => by simp only [ptab, List.mem_cons, List.not_mem_nil, or_false] at hp; rcases hp with rfl | rfl | rfl | rfl | rfl | rfl | rfl | rfl | rfl | rfl | rfl | rfl | rfl | rfl | rfl | rfl; all_goals first | exact ⟨_, q0⟩ | exact ⟨_, q1⟩ | exact ⟨_, q2⟩ | exact ⟨_, q3⟩ | exact ⟨_, q4⟩ | exact ⟨_, q5⟩ | exact ⟨_, q6⟩ | exact ⟨_, q7⟩ | exact ⟨_, q8⟩ | exact ⟨_, q9⟩ | exact ⟨_, q10⟩ | exact ⟨_, q11⟩ | exact ⟨_, q12⟩ | exact ⟨_, q13⟩ | exact ⟨_, q14⟩ | exact ⟨_, q15⟩)
  have ST : SameT mg := ⟨m_isinstance, m_dict, m_list, m_tuple, m_bool, m_int, m_str, m_len, m_all, m_zip⟩
  have T : OexC K CI := ⟨⟨_, _, _, _, _, _, _, _, _, _, _, _, _, _, _, cls, rv⟩, sa, exC, tyC, kC⟩
  refine ⟨PySem.W.fnOf "law" "law" (defArgs sLaw) (defBody sLaw) (defScope sLaw) .none kVlaw dclaw pmlaw anlaw (.ref c) ctlaw, [(c, PT)], spLawT K PT, ?_, ?_, ?_, fun s v => .of_eq rfl, ?_, fun base _ _ tabs => ?_⟩
  · intro p hp
    rw [List.mem_singleton.mp hp]
    exact empty
  · intro p hp
    rw [List.mem_singleton.mp hp]
    exact noP
  · intro p hp
    rw [List.mem_singleton.mp hp]
    exact PySem.W.codeHd_of_K X hcode
  · intro H a ns hl _ hT hS
    exact ⟨a, ns, rfl, hS, hl, hT (c, PT) List.mem_cons_self, fun _ => rfl⟩
  have TB : TabB base mg c PT := tabs (c, PT) List.mem_cons_self
  clear tabs empty hcode noP d3 d2
  have RM := ok_mult (P := l.prog) (w := w) (base := base) FMul FCs bCs gCs FIs bIs gIs FTw bTw gTw FL bL gL FSg bSg gSg FSd bSd gSd gA0 gD KD m_len m_sum m_zip m_all
  have GV := ok_valueof (P := l.prog) (w := w) (base := base) FV FL bL gL FSg bSg gSg FSd bSd gSd FZo bZo gZo FId bId gId RM kMul gMul FXI bXI T aXI tX nc np (PySem.W.mg_of X G aI) m_len m_min m_list m_enumerate
  have RP := ok_prod (P := l.prog) (w := w) (base := base) FPr FL bL gL FSg bSg gSg FSd bSd gSd m_len m_sum
  have GP := ok_pull (P := l.prog) (w := w) (base := base) FP m_len
  have GO := ok_of (P := l.prog) (w := w) (base := base) FO FP bP gP m_len
  have GM := ok_mixed (P := l.prog) (w := w) (base := base) FM FP bP gP m_len m_list m_range
  have GW := ok_lstring (P := l.prog) (w := w) (base := base) FW FP bP gP FO bO gO FLs bLs gLs m_len m_range
  have GT := ok_ltext (P := l.prog) (w := w) (base := base) FT FP bP gP FO bO gO FLs bLs gLs m_len m_range m_sorted
  have GZ := ok_lsize (P := l.prog) (w := w) (base := base) FZ FY bY gY m_sorted m_len
  have GTi := ok_ltimes (P := l.prog) (w := w) (base := base) FTi FTb bTb gTb FY bY gY FLs bLs gLs m_int m_zip
  have GTA := ok_ltall (P := l.prog) (w := w) (base := base) FTA FTi bTi gTi FTb bTb gTb FY bY gY FLs bLs gLs m_int m_zip
  have GU := ok_lvalue (P := l.prog) (w := w) (base := base) FU GZ FZ bZ gZ GTA FTA bTA gTA GTi FTi bTi gTi FY bY gY
  have GK := ok_keys (P := l.prog) (w := w) (base := base) FK FP bP gP FM bM gM m_len m_range m_sorted m_dict m_list
  have GE := ok_same (P := l.prog) (w := w) (base := base) FE ST gE bE 1
  exact ok_law (fd := PySem.W.fnOf "law" "law" (defArgs sLaw) (defBody sLaw) (defScope sLaw) .none kVlaw dclaw pmlaw anlaw (.ref c) ctlaw) llaw claw (ok_bag FB m_list) FB bB gB GP FP bP gP GM FM bM gM GO FO bO gO GE FE bE gE (ok_lets FA) FA bA gA (ok_lbody FY) FY bY gY GW FW bW gW GT FT bT gT GZ FZ bZ gZ GU FU bU gU GK FK bK gK GV FV bV gV
    RP FPr gPr RM kMul gMul gTr kTr lTr cTr bTr lFi cFi bFi gFi kFi (PySem.W.mg_of X G aCT) (PySem.W.mg_of X G aCM) x1 (xfB_ok xf) nc np TB m_range m_dict m_list m_len


end T25


open PySem PySem.W PyProof.Rows in
set_option maxRecDepth 100000 in
set_option maxHeartbeats 0 in
theorem PySem.Challenge.cw_threadmark_k25_values_of_words_holds : PySem.Challenge.rw_threadmark_k25_values_of_words.Holds := by
  w_on; o_law; k_head; (case hw => w_witness2)
  k_fill
  refine LamX.walk_ofTs (l := PySem.Challenge.rw_threadmark_k25_values_of_words) (n := 63) (k := 10) (x := "_law_script") (CX := fun _ => L2.CX0) rfl (by decide) rfl ⟨rfl, by decide, by decide⟩ (fun w h Y => PySem.W.km_in_of Y) ?F (fun _ _ _ _ _ h => h)
  case F =>
    intro w mg fa h Y KX G hmg
    have tb := PySem.W.km_tabs_of Y 297 (by decide)
    have hm2 : mg "law" = some (.ref fa) := hmg
    clear Y hmg
    refine' T25.all_mk 297 KX G hm2 tb ?aL ?lL ?cL ?kL ?aSg ?lSg ?cSg ?kSg ?aSd ?lSd ?cSd ?kSd ?aIs ?lIs ?cIs ?kIs ?aCs ?lCs ?cCs ?kCs ?aTw ?lTw ?cTw ?kTw ?aMul ?lMul ?cMul ?kMul ?aId ?lId ?cId ?kId ?aZo ?lZo ?cZo ?kZo ?aV ?lV ?cV ?kV ?aPr ?lPr ?cPr ?kPr ?aB ?lB ?cB ?kB ?aP ?lP ?cP ?kP ?aO ?lO ?cO ?kO ?aM ?lM ?cM ?kM ?aE ?lE ?cE ?kE ?aFi ?lFi ?cFi ?kFi ?aTr ?lTr ?cTr ?kTr ?aA ?lA ?cA ?kA ?aY ?lY ?cY ?kY ?aLs ?lLs ?cLs ?kLs ?aT ?lT ?cT ?kT ?aTb ?lTb ?cTb ?kTb ?aTi ?lTi ?cTi ?kTi ?aTA ?lTA ?cTA ?kTA ?aW ?lW ?cW ?kW ?aZ ?lZ ?cZ ?kZ ?aU ?lU ?cU ?kU ?aK ?lK ?cK ?kK ?alaw ?llaw ?claw ?klaw ?aXI ?lXI ?cXI ?kXI ?aI ?aCT ?aCM ?tX ?sa ?exC ?tyC ?kC ?cls ?rv ?nc ?np ?x1 ?xf ?hcode ?noP ?slt ?d1 ?d2 ?d3 ?q0 ?q1 ?q2 ?q3 ?q4 ?q5 ?q6 ?q7 ?q8 ?q9 ?q10 ?q11 ?q12 ?q13 ?q14 ?q15 ?z_isinstance ?z_dict ?z_list ?z_tuple ?z_bool ?z_int ?z_str ?z_len ?z_all ?z_zip ?z_sorted ?z_range ?z_min ?z_sum ?z_enumerate
    (case aI => k_is)
    (case aCT => k_is)
    (case aCM => k_is)
    (case aL => k_is)
    (case lL => k_is)
    (case cL => k_is)
    (case kL => k_is)
    (case aSg => k_is)
    (case lSg => k_is)
    (case cSg => k_is)
    (case kSg => k_is)
    (case aSd => k_is)
    (case lSd => k_is)
    (case cSd => k_is)
    (case kSd => k_is)
    (case aIs => k_is)
    (case lIs => k_is)
    (case cIs => k_is)
    (case kIs => k_is)
    (case aCs => k_is)
    (case lCs => k_is)
    (case cCs => k_is)
    (case kCs => k_is)
    (case aTw => k_is)
    (case lTw => k_is)
    (case cTw => k_is)
    (case kTw => k_is)
    (case aMul => k_is)
    (case lMul => k_is)
    (case cMul => k_is)
    (case kMul => k_is)
    (case aId => k_is)
    (case lId => k_is)
    (case cId => k_is)
    (case kId => k_is)
    (case aZo => k_is)
    (case lZo => k_is)
    (case cZo => k_is)
    (case kZo => k_is)
    (case aV => k_is)
    (case lV => k_is)
    (case cV => k_is)
    (case kV => k_is)
    (case aPr => k_is)
    (case lPr => k_is)
    (case cPr => k_is)
    (case kPr => k_is)
    (case aB => k_is)
    (case lB => k_is)
    (case cB => k_is)
    (case kB => k_is)
    (case aP => k_is)
    (case lP => k_is)
    (case cP => k_is)
    (case kP => k_is)
    (case aO => k_is)
    (case lO => k_is)
    (case cO => k_is)
    (case kO => k_is)
    (case aM => k_is)
    (case lM => k_is)
    (case cM => k_is)
    (case kM => k_is)
    (case aE => k_is)
    (case lE => k_is)
    (case cE => k_is)
    (case kE => k_is)
    (case aFi => k_is)
    (case lFi => k_is)
    (case cFi => k_is)
    (case kFi => k_is)
    (case aTr => k_is)
    (case lTr => k_is)
    (case cTr => k_is)
    (case kTr => k_is)
    (case aA => k_is)
    (case lA => k_is)
    (case cA => k_is)
    (case kA => k_is)
    (case aY => k_is)
    (case lY => k_is)
    (case cY => k_is)
    (case kY => k_is)
    (case aLs => k_is)
    (case lLs => k_is)
    (case cLs => k_is)
    (case kLs => k_is)
    (case aT => k_is)
    (case lT => k_is)
    (case cT => k_is)
    (case kT => k_is)
    (case aTb => k_is)
    (case lTb => k_is)
    (case cTb => k_is)
    (case kTb => k_is)
    (case aTi => k_is)
    (case lTi => k_is)
    (case cTi => k_is)
    (case kTi => k_is)
    (case aTA => k_is)
    (case lTA => k_is)
    (case cTA => k_is)
    (case kTA => k_is)
    (case aW => k_is)
    (case lW => k_is)
    (case cW => k_is)
    (case kW => k_is)
    (case aZ => k_is)
    (case lZ => k_is)
    (case cZ => k_is)
    (case kZ => k_is)
    (case aU => k_is)
    (case lU => k_is)
    (case cU => k_is)
    (case kU => k_is)
    (case aK => k_is)
    (case lK => k_is)
    (case cK => k_is)
    (case kK => k_is)
    (case alaw => k_is)
    (case llaw => k_is)
    (case claw => k_is)
    (case klaw => k_is)
    (case aXI => k_is)
    (case lXI => k_is)
    (case cXI => k_is)
    (case kXI => k_is)
    (case tX => k_is)
    (case sa => k_is)
    (case exC => k_is)
    (case tyC => k_is)
    (case kC => k_is)
    (case cls => k_is)
    (case rv => first | k_is | rfl | kernel_rfl | decide +kernel)
    (case nc => k_is)
    (case np => k_is)
    (case x1 => first | k_is | rfl | kernel_rfl | decide +kernel)
    (case xf => first | k_is | rfl | kernel_rfl | decide +kernel)
    (case hcode => first | k_is | rfl | kernel_rfl | decide +kernel)
    (case noP => first | k_is | rfl | kernel_rfl | decide +kernel)
    (case slt => k_is)
    (case d1 => k_is)
    (case d2 => k_is)
    (case d3 => exact ⟨⟨_, _, rfl, rfl⟩, ⟨_, _, rfl, rfl⟩, ⟨_, _, rfl, rfl⟩, ⟨_, _, rfl, rfl⟩, ⟨_, _, rfl, rfl⟩, ⟨_, _, rfl, rfl⟩, ⟨_, _, rfl, rfl⟩, ⟨_, _, rfl, rfl⟩, ⟨_, _, rfl, rfl⟩, ⟨_, _, rfl, rfl⟩, ⟨_, _, rfl, rfl⟩, ⟨_, _, rfl, rfl⟩, ⟨_, _, rfl, rfl⟩, ⟨_, _, rfl, rfl⟩, ⟨_, _, rfl, rfl⟩, ⟨_, _, rfl, rfl⟩, trivial⟩)
    (case q0 => k_is)
    (case q1 => k_is)
    (case q2 => k_is)
    (case q3 => k_is)
    (case q4 => k_is)
    (case q5 => k_is)
    (case q6 => k_is)
    (case q7 => k_is)
    (case q8 => k_is)
    (case q9 => k_is)
    (case q10 => k_is)
    (case q11 => k_is)
    (case q12 => k_is)
    (case q13 => k_is)
    (case q14 => k_is)
    (case q15 => k_is)
    (case z_isinstance => k_is)
    (case z_dict => k_is)
    (case z_list => k_is)
    (case z_tuple => k_is)
    (case z_bool => k_is)
    (case z_int => k_is)
    (case z_str => k_is)
    (case z_len => k_is)
    (case z_all => k_is)
    (case z_zip => k_is)
    (case z_sorted => k_is)
    (case z_range => k_is)
    (case z_min => k_is)
    (case z_sum => k_is)
    (case z_enumerate => k_is)

