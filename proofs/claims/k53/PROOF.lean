import PyProof.Rows.All
import Wide.All
import OpenK.AllK
import Wide.FinOn
import KE.KDictZip
import KE.KDictItemsList
import HandS.Base
import HandS.Call
import HandS.List
import HandS.Comp
import HandS.Ends
import HandS.Iter
import HandS.Words
import HandS.WordsList
import HandS.SortInts
import HandS.IsInst
import HandS.Wide
import HandS.Style
import HandS.SetFor
import HandS.Dict
import HandS.Evl
import HandS.WordsDict
import HandS.Sort
import HandS.SortOrd
import HandS.SortRule
import HandS.Conv
import HandS.Walk
import HandS.Steps
import HandS.TryOnly
import KE.KIntText
import KE.IntTextText
import PyProof.StrLawsTight
import PyProof.Rows.ReprOcc
import HandS.StrMore
import HandS.Text
import PySem.Challenge.RW_sumplace_k53_rows_written
set_option Elab.async false
set_option linter.all false
set_option maxRecDepth 100000
set_option maxHeartbeats 4000000
/-! list(enumerate(xs)): the tuples stay held, each a new object. -/
namespace Enl
open PySem PySem.W PySem.Calls PyProof.Rows PyProof.V PySem.Spec

theorem no_len : typeLookup (.type "enumerate") "__len__" = pure none := am_miss_of_fast (by decide +kernel)
theorem no_hint : typeLookup (.type "enumerate") "__length_hint__" = pure none := am_miss_of_fast (by decide +kernel)

structure Got (its : Array Value) (lo : Addr) (h : Heap) (as : List Addr) : Prop where
  up : as.Pairwise (· < ·)
  ab : ∀ a ∈ as, lo < a
  prs : ∀ (j : Nat) (a : Addr), as[j]? = some a → ∃ (v : Value) (t : Tok), its[j]? = some v ∧ h.get? a = some { cls := .type "tuple", data := .seq #[.int j t, v] }

/-- where the enumerate stands ahead of turn i -/
def At (h : Heap) (e it l S : Addr) (i : Nat) (its : Array Value) : Prop :=
  h.IsListIter it l i ∧ h.IsList l its ∧ ((∃ old, IsEnum h e it i old) ∨ ∃ old T f oT, IsEnumHeld h e it i old T f ∧ h.get? T = some oT ∧ T ≠ e ∧ T ≠ it ∧ T ≠ S)
theorem At.up {h h' : Heap} {e it l S : Addr} {i : Nat} {its : Array Value} (a : At h e it l S i its) (n1 : e ≠ S) (n2 : it ≠ S) (n3 : l ≠ S) (k : ∀ b o, b ≠ S → h.get? b = some o → h'.get? b = some o) : At h' e it l S i its := by
  obtain ⟨a1, a2, a3⟩ := a
  refine ⟨a1.at fun o x => k _ o n2 x, a2.at fun o x => k _ o n3 x, ?_⟩
  rcases a3 with ⟨old, a3⟩ | ⟨old, T, f, oT, a3, a4, r1, r2, r3⟩
  · exact .inl ⟨old, k _ _ n1 a3⟩
  · exact .inr ⟨old, T, f, oT, k _ _ n1 a3, k _ _ r3 a4, r1, r2, r3⟩

section
variable {prog : Program} {w : World} {A : Around} {E : Value → Shared → Prop} {s : Shared}
theorem next_item {e it l S : Addr} {i : Nat} {its : Array Value} {x : Value} {Q : Option Value → Shared → Prop} (st : At s.heap e it l S i its) (hx : its[i]? = some x) (hei : e ≠ it) (hle : l ≠ e) (hli : l ≠ it) (hS : S < s.heap.objs.size)
    (hQ : ∀ h', At h' e it l S (i + 1) its → h'.get? s.heap.objs.size = some { cls := .type "tuple", data := .seq #[.int i s.toks, x] } → h'.objs.size = s.heap.objs.size + 1 →
      (∀ b o, b ≠ e → b ≠ it → s.heap.get? b = some o → h'.get? b = some o) → Q (some (.ref s.heap.objs.size)) { s with heap := h', toks := s.toks + 1 }) : wpAny (model prog w) A (pyNext (.ref e)) Q E s := by
  obtain ⟨hit, hl, he⟩ := st
  have ec : ((i + 1 : Nat) : Int) = (i : Int) + 1 := by omega
  have nit : s.heap.objs.size ≠ it := let ⟨_, x, _⟩ := hit; Nat.ne_of_gt (Heap.lt_size x)
  rcases he with ⟨old, he⟩ | ⟨old, T, f, oT, he, hT, r1, r2, r3⟩
  · refine wpAny_pyNext_enum_item he hit hl hx hei fun h' ho hit' hT hz hk => ?_
    refine hQ h' ⟨hit', hl.at fun o y => hk l o hle hli y, .inr ⟨_, s.heap.objs.size, false, _, (by rw [ec]; exact ho), hT, Nat.ne_of_gt (Heap.lt_size he), nit, Nat.ne_of_gt hS⟩⟩ hT hz hk
  · refine wpAny_pyNext_enum_item_held he hT r1 r2 hit hl hx hei fun h' ho hit' hT' hz hk => ?_
    refine hQ h' ⟨hit', hl.at fun o y => hk l o hle hli y, .inr ⟨old, T, true, oT, (by rw [ec]; exact ho), hk _ _ r1 r2 hT, r1, r2, r3⟩⟩ hT' hz hk
theorem next_end {e it l S : Addr} {its : Array Value} {Q : Option Value → Shared → Prop} (hh : A.handled = none) (st : At s.heap e it l S its.size its)
    (hQ : ∀ h', Heap.ExtBut it s.heap h' → Q none { s with heap := h' }) : wpAny (model prog w) A (pyNext (.ref e)) Q E s := by
  obtain ⟨hit, hl, he⟩ := st
  have hx : its[its.size]? = none := Array.getElem?_eq_none (Nat.le_refl _)
  rcases he with ⟨old, he⟩ | ⟨old, T, f, oT, he, hT, r1, r2, r3⟩
  · exact wpAny_pyNext_enum_end hh he hit hl hx fun h' hk => hQ h' hk
  · exact wpAny_pyNext_enum_end_held hh he hit hl hx fun h' hk => hQ h' hk
end

section
variable {prog : Program} {w : World} {A : Around} {s : Shared} {R : Result → Shared → Prop} {its : Array Value}
theorem turns {S e it l : Addr} (hh : A.handled = none) (hSe : S ≠ e) (hSi : S ≠ it) (hSl : S ≠ l) (hei : e ≠ it) (hle : l ≠ e) (hli : l ≠ it) (hn : its.size ≤ sizeLine) (res : Value) {h₁ : Heap} {lo : Addr} (hlS : S ≤ lo) (hle' : e ≤ lo) (hli' : it ≤ lo)
    (hR : ∀ h' tk acc c as, (∀ b o, b ≠ S → b ≠ e → b ≠ it → h₁.get? b = some o → h'.get? b = some o) → h'.get? S = some { cls := .type "list", dict := none, data := .seq acc c, slots := #[] } → as.length = its.size → Got its lo h' as →
      acc.toList = as.map Value.ref → R (.ok (.ret res)) { s with heap := h', toks := tk }) :
    ∀ (k i : Nat) (h : Heap) (tk c : Nat) (acc : Array Value) (as : List Addr), its.size - i = k → i ≤ its.size → At h e it l S i its → (∀ b o, b ≠ S → b ≠ e → b ≠ it → h₁.get? b = some o → h.get? b = some o) →
      h.get? S = some { cls := .type "list", dict := none, data := .seq acc c, slots := #[] } → acc.toList = as.map Value.ref → as.length = i → Got its lo h as → lo < h.objs.size → (∀ a ∈ as, a < h.objs.size) →
      codeAny (model prog w) A (.builtin "list.extend.loop" ⟨[.ref S, .ref e, res], []⟩) R { s with heap := h, toks := tk } := by
  intro k
  induction k with
  | zero =>
    intro i h tk c acc as hk hi hst hkeep hS hacc hal hG hlo hlt
    obtain rfl : i = its.size := by omega
    refine codeAny_builtin PySem.F.entry_extend_loop ?_; rw [Around.under_plainId PySem.F.plain_extend_loop _]
    show wpAny _ A.in1 (pyNext (.ref e) >>= _) _ _ _
    refine wpAny_bind (next_end (s := { s with heap := h, toks := tk }) (A := A.in1) hh hst fun h' he => ?_)
    refine wpAny_pure (hR h' tk acc c as (fun b o h1 h2 h3 y => he b o h3 (hkeep b o h1 h2 h3 y)) (he S _ hSi hS) hal ⟨hG.up, hG.ab, fun j a hj => ?_⟩ hacc)
    obtain ⟨v, t, e1, e2⟩ := hG.prs j a hj
    exact ⟨v, t, e1, he a _ (Nat.ne_of_gt (Nat.lt_of_le_of_lt hli' (hG.ab a (List.mem_of_getElem? hj)))) e2⟩
  | succ k ih =>
    intro i h tk c acc as hk hi hst hkeep hS hacc hal hG hlo hlt
    have hi' : i < its.size := by omega
    have hsz : acc.size = i := by rw [← Array.length_toList, hacc, List.length_map, hal]
    have hSz : S < h.objs.size := Heap.lt_size hS
    refine codeAny_builtin PySem.F.entry_extend_loop ?_; rw [Around.under_plainId PySem.F.plain_extend_loop _]
    show wpAny _ A.in1 (pyNext (.ref e) >>= _) _ _ _
    refine wpAny_bind (next_item (s := { s with heap := h, toks := tk }) hst (Array.getElem?_eq_getElem hi') hei hle hli hSz fun h' hst' ht hz hkp => ?_)
    dsimp only at ht hz hkp ⊢
    have hS' := hkp S _ hSe hSi hS
    have up : ∀ b o, b ≠ S → h'.get? b = some o → (h'.update S (Obj.mapSeq (·.push (Value.ref h.objs.size)))).get? b = some o := fun b o hb y => (Heap.get?_update_other _ _ (Ne.symm hb)).trans y
    show wpAny _ A.in1 (updateSeq S (·.push (Value.ref h.objs.size)) >>= _) _ _ _
    refine wpAny_bind ?_
    refine wpAny_updateSeq hS' rfl (wpAny_pure ⟨plainId_quiet PySem.F.plain_extend_loop _, ?_⟩) (by rw [hsz]; omega) (by show (acc.push (Value.ref h.objs.size)).size ≤ sizeLine + 1; rw [Array.size_push, hsz]; omega)
    have hT := up _ _ (Nat.ne_of_gt hSz) ht
    have hbig : h.objs.size < (h'.update S (Obj.mapSeq (·.push (Value.ref h.objs.size)))).objs.size := Heap.lt_size hT
    refine ih (i + 1) _ (tk + 1) _ (acc.push (Value.ref h.objs.size)) (as ++ [h.objs.size]) (by omega) hi' (hst'.up (Ne.symm hSe) (Ne.symm hSi) (Ne.symm hSl) up) (fun b o h1 h2 h3 y => up b o h1 (hkp b o h2 h3 (hkeep b o h1 h2 h3 y))) (Heap.get?_update_self _ hS' rfl)
      (by rw [Array.toList_push, hacc, List.map_append]; rfl) (by rw [List.length_append, hal]; rfl) ⟨?_, ?_, ?_⟩ (Nat.lt_trans hlo hbig) ?_
    · refine List.pairwise_append.mpr ⟨hG.up, List.pairwise_singleton _ _, fun a ha b hb => ?_⟩
      rw [List.mem_singleton.mp hb]
      exact hlt a ha
    · intro a ha
      rcases List.mem_append.mp ha with ha | ha
      · exact hG.ab a ha
      · rw [List.mem_singleton.mp ha]
        exact hlo
    · intro j a hj
      by_cases hjl : j < as.length
      · rw [List.getElem?_append_left hjl] at hj
        obtain ⟨v, t, e1, e2⟩ := hG.prs j a hj
        have ga := hG.ab a (List.mem_of_getElem? hj)
        exact ⟨v, t, e1, up a _ (Nat.ne_of_gt (Nat.lt_of_le_of_lt hlS ga)) (hkp a _ (Nat.ne_of_gt (Nat.lt_of_le_of_lt hle' ga)) (Nat.ne_of_gt (Nat.lt_of_le_of_lt hli' ga)) e2)⟩
      · have hjb : j < (as ++ [h.objs.size]).length := (List.getElem?_eq_some_iff.mp hj).1
        rw [List.length_append, List.length_singleton] at hjb
        obtain rfl : j = i := by omega
        rw [List.getElem?_append_right (by omega), show j - as.length = 0 from by omega] at hj
        obtain rfl : h.objs.size = a := Option.some.inj hj
        exact ⟨its[j], tk, Array.getElem?_eq_getElem hi', hT⟩
    · intro a ha
      rcases List.mem_append.mp ha with ha | ha
      · exact Nat.lt_trans (hlt a ha) hbig
      · rw [List.mem_singleton.mp ha]
        exact hbig
end
section
variable {prog : Program} {w : World} {A : Around} {E : Value → Shared → Prop} {s : Shared} {its : Array Value} {e it l : Addr}
theorem hint_none (he : s.TypeIs (.ref e) "enumerate") {Q : Bool → Shared → Prop} (h : Q true s) : wpAny (model prog w) A (Builtin.List.listLengthHint (.ref e)) Q E s := by
  unfold Builtin.List.listLengthHint
  refine wpAny_bind (wpAny_specialOf he no_len ?_)
  show wpAny _ A (specialOf (Value.ref e) (Str.ofString "__length_hint__") >>= _) _ _ _
  refine wpAny_bind (wpAny_specialOf he no_hint ?_)
  exact wpAny_pure h
/-- list(e), e an enumerate over a list that stands at its begin -/
theorem call_list {Q : Value → Shared → Prop} (hh : A.handled = none) (he : IsEnum s.heap e it 0 .none) (hit : s.heap.IsListIter it l 0) (hl : s.heap.IsList l its) (hei : e ≠ it) (hle : l ≠ e) (hli : l ≠ it) (hn : its.size ≤ sizeLine)
    (hQ : ∀ h' tk acc c as, (∀ b o, b ≠ e → b ≠ it → s.heap.get? b = some o → h'.get? b = some o) → h'.get? s.heap.objs.size = some { cls := .type "list", dict := none, data := .seq acc c, slots := #[] } → as.length = its.size → Got its s.heap.objs.size h' as →
      acc.toList = as.map Value.ref → Q (.ref s.heap.objs.size) { s with heap := h', toks := tk }) :
    wpAny (model prog w) A (call (.type "list") [.ref e]) Q E s := by
  refine callType_codes (Q₁ := fun obj s₁ => obj = .ref s.heap.objs.size ∧ s₁ = { s with heap := s.heap.push { cls := .type "list", data := .seq #[] } }) PySem.F.called_list (PySem.F.typeCall_list_1 _) PySem.F.entry_list_init (code_list_new _ ⟨rfl, rfl⟩) fun obj s₁ h₁ => ?_
  obtain ⟨rfl, rfl⟩ := h₁
  have hS : (s.heap.push { cls := .type "list", data := .seq #[] }).get? s.heap.objs.size = some { cls := .type "list", data := .seq #[] } := Heap.get?_push_size _ rfl
  have le : e < s.heap.objs.size := Heap.lt_size he
  have li : it < s.heap.objs.size := let ⟨_, x, _⟩ := hit; Heap.lt_size x
  have ll : l < s.heap.objs.size := let ⟨_, x, _⟩ := hl; Heap.lt_size x
  generalize hg : s.heap.push { cls := .type "list", data := .seq #[] } = h0 at hS
  have k0 : ∀ b o, s.heap.get? b = some o → h0.get? b = some o := fun b o x => by rw [← hg]; exact Heap.get?_push_of_some _ x
  have z0 : h0.objs.size = s.heap.objs.size + 1 := by rw [← hg, Heap.size_push]
  generalize hp : s.heap.objs.size = S at hS le li ll z0 hQ
  have a0 : At h0 e it l S 0 its := ⟨hit.at fun o x => k0 _ o x, hl.at fun o x => k0 _ o x, .inl ⟨.none, k0 _ _ he⟩⟩
  refine ⟨⟨_, hS, rfl⟩, PySem.F.args_list_init_2 _ _, ?_⟩
  show wpAny _ _ (do let old ← Builtin.List.listItems (.ref S); Builtin.List.listUpdate (.ref S) (fun _ => #[]); letGo old.toList.reverse; Builtin.List.listExtendWith (.ref S) (.ref e) .none) _ _ _
  refine wpAny_bind ?_
  unfold Builtin.List.listItems
  refine wpAny_bind (wpAny_seqItems hS rfl (wpAny_pure ?_))
  show wpAny _ _ (updateSeq S (fun _ => #[]) >>= fun _ => letGo (#[] : Array Value).toList.reverse >>= fun _ => Builtin.List.listExtendWith (.ref S) (.ref e) .none) _ _ _
  refine wpAny_bind (wpAny_updateSeq hS rfl ?_)
  have hS2 := Heap.get?_update_self (Obj.mapSeq (fun _ => (#[] : Array Value))) hS rfl
  have k2 : ∀ b o, b ≠ S → h0.get? b = some o → (h0.update S (Obj.mapSeq (fun _ => (#[] : Array Value)))).get? b = some o := fun b o hb x => (Heap.get?_update_other _ _ (Ne.symm hb)).trans x
  have a2 := a0.up (Nat.ne_of_lt le) (Nat.ne_of_lt li) (Nat.ne_of_lt ll) k2
  generalize h0.update S (Obj.mapSeq (fun _ => (#[] : Array Value))) = h2 at hS2 k2 a2
  refine wpAny_bind (wpAny_letGo ?_)
  have T2 : Shared.TypeIs { s with heap := h2 } (.ref e) "enumerate" := by
    rcases a2.2.2 with ⟨old, x⟩ | ⟨old, T, f, oT, x, _⟩
    · exact ⟨_, x, rfl⟩
    · exact ⟨_, x, rfl⟩
  unfold Builtin.List.listExtendWith
  refine wpAny_bind (wpAny_typeOf (T := "enumerate") T2 ?_)
  have g1 : Builtin.List.listSameRef (.ref S) (.ref e) = false := by simp [Builtin.List.listSameRef, Nat.ne_of_gt le]
  have g2 : (Value.type "enumerate" == Value.type "list") = false := by decide
  have g3 : (Value.type "enumerate" == Value.type "tuple") = false := by decide
  simp only [g1, g2, g3, Bool.or_false, Bool.false_eq_true, if_false]
  have e2 : ∃ old, IsEnum h2 e it 0 old := ⟨.none, k2 _ _ (Nat.ne_of_lt le) (k0 _ _ he)⟩
  obtain ⟨old2, e2⟩ := e2
  refine wpAny_bind (wpAny_pyIter_enum (s := { s with heap := h2 }) e2 ?_)
  refine wpAny_bind (wpAny_holding (hint_none T2 ?_))
  have key : ∀ (h : Heap) (tk c : Nat), (∀ b o, b ≠ S → h2.get? b = some o → h.get? b = some o) → h.get? S = some { cls := .type "list", data := .seq #[] c } →
      codeAny (model prog w) A.in1 (.builtin "list.extend.loop" ⟨[.ref S, .ref e, .none], []⟩) (wants (fun r s2 => r = Value.none ∧ Q (Value.ref S) s2) E) { s with heap := h, toks := tk } := by
    intro h tk c kh hSh
    refine turns (A := A.in1) (s := s) (h₁ := s.heap) (lo := S) hh (Nat.ne_of_gt le) (Nat.ne_of_gt li) (Nat.ne_of_gt ll) hei hle hli hn .none (Nat.le_refl _) (Nat.le_of_lt le) (Nat.le_of_lt li)
      (fun h' tk' acc c' as k3 k4 k5 k6 k7 => ⟨rfl, ?_⟩) its.size 0 h tk c #[] [] (Nat.sub_zero _) (Nat.zero_le _) (a2.up (Nat.ne_of_lt le) (Nat.ne_of_lt li) (Nat.ne_of_lt ll) kh)
      (fun b o h1 _ _ x => kh b o h1 (k2 b o h1 (k0 b o x))) hSh rfl rfl ⟨List.Pairwise.nil, (fun _ ha => nomatch ha), (fun j a hj => by simp at hj)⟩ ?_ (fun _ ha => nomatch ha)
    · exact hQ h' tk' acc c' as (fun b o h1 h2 x => k3 b o (by rw [← hp]; exact Nat.ne_of_lt (Heap.lt_size x)) h1 h2 x) k4 k5 k6 k7
    · exact Heap.lt_size hSh
  refine wpAny_ite_split (fun _ => ?_) (fun _ => wpAny_pure ⟨plainId_quiet PySem.F.plain_extend_loop _, key h2 _ _ (fun b o _ x => x) hS2⟩)
  refine wpAny_bind (wpAny_rule ?_)
  refine wpAny_bind ?_
  show wpAny _ _ (updateSeq S (·.push .none) >>= fun _ => updateSeq S (·.pop)) _ _ _
  refine wpAny_bind (wpAny_updateSeq hS2 rfl ?_)
  have hS3 := Heap.get?_update_self (Obj.mapSeq (·.push Value.none)) hS2 rfl
  refine wpAny_updateSeq (hz := by seq_fits) hS3 rfl ?_
  have hS4 := Heap.get?_update_self (Obj.mapSeq (·.pop)) hS3 rfl
  refine wpAny_pure ⟨plainId_quiet PySem.F.plain_extend_loop _, key _ _ _ (fun b o hb x => ?_) hS4⟩
  exact (Heap.get?_update_other _ _ (Ne.symm hb)).trans ((Heap.get?_update_other _ _ (Ne.symm hb)).trans x)
end
end Enl

namespace Enl
open PySem PySem.W PyProof.Rows L2
section
variable {X : Cx} {pins : List (Addr × Obj)} {σ : L2.St} {H H' : Hp} {s : Shared} {h' : Heap} {tk : Nat}
/-- many new objects tracked at once -/
theorem lay_many (I : Inv X pins σ H s) (hk : ∀ b o, s.heap.get? b = some o → h'.get? b = some o) (up : ∀ b u, H b = some u → H' b = some u) (off : ∀ b, b < s.heap.objs.size → H b = none → H' b = none)
    (new : ∀ b u, H' b = some u → H b = some u ∨ ObjOk X.prog X.w H' h' b u) : Inv X pins σ H' { s with heap := h', toks := tk } := by
  refine I.call' (ch := []) rfl ⟨fun b o q _ _ _ => hk b o q, fun b o q _ _ _ => ⟨o.slots, hk b o q⟩, fun b o q n _ => off b (Heap.lt_size q) n, fun b o q _ => ⟨o, hk b o q⟩, fun b xs q => up b _ q, fun b o u q => up b _ q, fun b ps q => ⟨#[], by rw [up b _ q]; simp⟩⟩ (fun b u q => ?_) I.bare (fun b z => by simp at z)
  rcases new b u q with q1 | q1
  · exact (I.hok b u q1).stay (fun d v _ y => hk d v y) (fun d y => up d _ y) (fun d xs y => up d _ y)
  · exact q1
end
/-- the pairs tracked at their addresses, numbered from n -/
def putE : Hp → Nat → List Addr → List V → Hp
  | H, n, a :: as, x :: xs => putE (upd H a (.tup [.int (n : Int), x])) (n + 1) as xs
  | H, _, _, _ => H
theorem putE_off {b : Addr} : ∀ (as : List Addr) (xs : List V) (n : Nat) (H : Hp), b ∉ as → putE H n as xs b = H b
  | [], _, _, _, _ => rfl
  | _ :: _, [], _, _, _ => rfl
  | a :: as, x :: xs, n, H, h => by
    show putE (upd H a (.tup [.int (n : Int), x])) (n + 1) as xs b = H b
    rw [putE_off as xs (n + 1) _ (fun z => h (List.mem_cons_of_mem _ z)), upd_ne (fun z => h (by rw [z]; exact List.mem_cons_self))]
theorem putE_at : ∀ (as : List Addr) (xs : List V) (n : Nat) (H : Hp), as.Nodup → ∀ (j : Nat) (a : Addr) (x : V), as[j]? = some a → xs[j]? = some x → putE H n as xs a = some (.tup [.int ((n + j : Nat) : Int), x])
  | [], _, _, _, _, j, a, x, h, _ => by simp at h
  | _ :: _, [], _, _, _, j, a, x, _, h => by simp at h
  | b :: as, y :: xs, n, H, nd, 0, a, x, h1, h2 => by
    obtain rfl : b = a := Option.some.inj h1
    obtain rfl : y = x := Option.some.inj h2
    show putE (upd H b (.tup [.int (n : Int), y])) (n + 1) as xs b = _
    rw [putE_off as xs (n + 1) _ (List.nodup_cons.mp nd).1, upd_same]
    rfl
  | b :: as, y :: xs, n, H, nd, j + 1, a, x, h1, h2 => by
    show putE (upd H b (.tup [.int (n : Int), y])) (n + 1) as xs a = _
    rw [putE_at as xs (n + 1) _ (List.nodup_cons.mp nd).2 j a x h1 h2]
    rw [show n + 1 + j = n + (j + 1) from by omega]
theorem vals_at : ∀ {xs : List V} {us : List Value}, Vals xs us → ∀ {i : Nat} {u : Value}, us[i]? = some u → ∃ x, xs[i]? = some x ∧ RelV x u
  | _, _, .nil, i, u, h => by simp at h
  | _, _, .cons r t, 0, u, h => by
    obtain rfl := Option.some.inj h
    exact ⟨_, rfl, r⟩
  | _, _, .cons r t, i + 1, u, h => vals_at t (i := i) (u := u) h
theorem refs_vals : ∀ as : List Addr, Vals (as.map V.ref) (as.map Value.ref)
  | [] => .nil
  | _ :: as => .cons rfl (refs_vals as)
/-- list(enumerate(xs)): a new list of new pairs -/
def rEnumL (K : PySem.W.Frag) : V → Hp → VK → Prop := fun x H Q => ∃ (a : Addr) (xs : List V), x = .ref a ∧ SqL K H a xs ∧ xs.length + 1 ≤ sizeLine ∧
  ∀ (H' : Hp) (p : Addr) (ts : List Addr), Same H H' → H p = none → (∀ t ∈ ts, H t = none) → H' p = some (.lst (ts.map V.ref)) → ts.length = xs.length →
    (∀ (j : Nat) (t : Addr) (y : V), ts[j]? = some t → xs[j]? = some y → H' t = some (.tup [.int (j : Int), y])) → Q (.ref p) H'
def tEnumL (K : PySem.W.Frag) (te : TE) : TE := fun σ H Q => te σ H fun x H1 => rEnumL K x H1 Q
section
variable {X : Cx} {e : Expr} {te : TE} {p p2 pos pos2 : Pos}
theorem pe_listEnum (hm : X.mg "list" = none) (hm2 : X.mg "enumerate" = none) (he : PE X e te) (hc : X.calm = true := by rfl) (hg : Gl X "list" := by rfl) (hg2 : Gl X "enumerate" := by rfl)
    (hs2 : starEach [e] X.env = [(false, eval e X.env)] := by rfl)
    (hs : starEach [.Call (.Name "enumerate" p2) [e] [] pos2] X.env = (false, eval (.Call (.Name "enumerate" p2) [e] [] pos2) X.env) :: starEach [] X.env := by rfl) :
    PE X (.Call (.Name "list" p) [.Call (.Name "enumerate" p2) [e] [] pos2] [] pos) (tEnumL X.K te) := by
  refine ⟨fun pins s σ H Q I hq => ?_⟩
  refine wpAny_Call_Name_kw (ld_blt I hg hm (by decide +kernel : bootBuiltins "list" = some (.type "list")) ?_)
  refine PyProof.Rows.callWith_type1 ?_ hs rfl
  rw [hs]
  show wpAny _ _ (spliced ((false, eval (.Call (.Name "enumerate" p2) [e] [] pos2) X.env) :: backTo pos (starEach [] X.env))) _ _ s
  refine Calls.spliced_cons ?_
  refine Call_ (ld_blt I hg2 hm2 boot_enumerate (PyProof.Rows.callWith_type1 ?_ hs2 rfl))
  rw [hs2]
  show wpAny _ _ (spliced ((false, eval e X.env) :: backTo pos2 (starEach [] X.env))) _ _ s
  refine Calls.spliced_cons (thn (he.run pins s σ H _ I hq) fun v s1 ⟨x, H1, I1, r1, a, xs, ex, hq1, hz1, q⟩ => ?_)
  subst ex
  obtain rfl : v = Value.ref a := r1
  refine Calls.spliced_nil ?_
  obtain ⟨its, rv, pl, hz⟩ := I1.list hq1
  refine call_enumerate_list pl.isList fun h' he' hit hsz hk => ?_
  refine Calls.spliced_nil ?_
  have la : a < s1.heap.objs.size := let ⟨_, z, _⟩ := pl.isList; Heap.lt_size z
  have hlen : its.length = xs.length := rv.length.symm
  refine Enl.call_list (s := { s1 with heap := h' }) (I1.ok.hd hc) he' hit (pl.isList.at fun o z => hk _ o z) (Nat.succ_ne_self _) (Nat.ne_of_lt (Nat.lt_succ_of_lt la)) (Nat.ne_of_lt la) (by rw [List.size_toArray, hlen]; exact hz) fun h2 tk acc c as k1 k2 k3 k4 k5 => ?_
  dsimp only at k1 k2 k3 k4 k5 ⊢
  have keep : ∀ b o, s1.heap.get? b = some o → h2.get? b = some o := fun b o z => k1 b o (Nat.ne_of_lt (Nat.lt_succ_of_lt (Heap.lt_size z))) (Nat.ne_of_lt (Heap.lt_size z)) (hk b o z)
  have big : s1.heap.objs.size ≤ h'.objs.size := by rw [hsz]; omega
  have nd : as.Nodup := List.Pairwise.imp (fun {a b} (z : a < b) => Nat.ne_of_lt z) k4.up
  have nS : h'.objs.size ∉ as := fun z => Nat.lt_irrefl _ (k4.ab _ z)
  have fr : ∀ b, s1.heap.objs.size ≤ b → H1 b = none := fun b z => I1.hok.fresh z
  have frA : ∀ t ∈ as, H1 t = none := fun t z => fr t (Nat.le_trans big (Nat.le_of_lt (k4.ab t z)))
  have lenA : as.length = xs.length := by rw [k3, List.size_toArray, hlen]
  generalize hH2 : putE (upd H1 h'.objs.size (.lst (as.map V.ref))) 0 as xs = H2
  have eS : H2 h'.objs.size = some (.lst (as.map V.ref)) := by rw [← hH2, putE_off as xs 0 _ nS, upd_same]
  have eT : ∀ (j : Nat) (t : Addr) (y : V), as[j]? = some t → xs[j]? = some y → H2 t = some (.tup [.int (j : Int), y]) := fun j t y z1 z2 => by
    have z3 := putE_at as xs 0 (upd H1 h'.objs.size (.lst (as.map V.ref))) nd j t y z1 z2
    rw [Nat.zero_add] at z3
    rw [← hH2]
    exact z3
  have eO : ∀ b, b ≠ h'.objs.size → b ∉ as → H2 b = H1 b := fun b z1 z2 => by rw [← hH2, putE_off as xs 0 _ z2, upd_ne z1]
  have up : ∀ b u, H1 b = some u → H2 b = some u := fun b u z => by
    rw [eO b (fun y => by rw [y, fr _ big] at z; cases z) (fun y => by rw [frA b y] at z; cases z)]
    exact z
  have J : Inv X pins σ H2 { s1 with heap := h2, toks := tk } := by
    refine lay_many I1 keep up (fun b z n => ?_) fun b u z => ?_
    · rw [eO b (fun y => absurd z (Nat.not_lt.mpr (by rw [y]; exact big))) (fun y => absurd z (Nat.not_lt.mpr (Nat.le_trans big (Nat.le_of_lt (k4.ab b y)))))]
      exact n
    · by_cases hb : b ∈ as
      · obtain ⟨j, hj⟩ := List.mem_iff_getElem?.mp hb
        obtain ⟨v, t, w1, w2⟩ := k4.prs j b hj
        rw [List.getElem?_toArray] at w1
        obtain ⟨x, w3, w4⟩ := vals_at rv w1
        have w5 := eT j b x hj w3
        rw [w5] at z
        cases z
        exact .inr ⟨by show 2 ≤ sizeLine; decide, [.int j t, v], .cons ⟨t, rfl⟩ (.cons w4 .nil), ⟨_, w2, rfl, _, rfl⟩⟩
      · by_cases hb2 : b = h'.objs.size
        · subst hb2
          rw [eS] at z
          cases z
          refine .inr ⟨by rw [List.length_map, lenA]; omega, acc.toList, c, by rw [k5]; exact refs_vals as, ?_⟩
          rw [Array.toArray_toList]
          exact k2
        · rw [eO b hb2 hb] at z
          exact .inl z
  exact ⟨.ref _, H2, J, rfl, q H2 _ as up (fr _ big) frA eS lenA eT⟩
end
end Enl

namespace Sp
open PySem L2
/-! ### a def of the text that keeps its promise, by its name -/
structure Cal (P : Program) (w : World) (K : PySem.W.Frag) (mg : Str → Option Value) (base : Heap) (k : Nat) (x : Str) (ps : List Str) (sp : Sp) : Prop where
  ex : ∃ (f : Addr) (fd : FuncData), FnOk P w K mg base CX0 k f fd ps sp ∧ mg x = some (.ref f) ∧ PySem.W.keepIn K (.ref f) = true ∧ Binds K fd ps []
theorem pe_own {X : Cx} {k : Nat} {x : Str} {ps : List Str} {sp : Sp} {e : Expr} {es : List Expr} {t : TA} {p pos : Pos} (c : Cal X.prog X.w X.K X.mg X.base k x ps sp) (hr : Room k X.A) (hg : Gl X x) (ha : PA X (e :: es) t)
    (hdb : (x == ("__debug__" : Str)) = false := by decide) (he : starEach (e :: es) X.env = (false, eval e X.env) :: starEach es X.env := by rfl) (hpl : (backTo pos (starEach es X.env)).any (·.1) = false := by rfl) :
    PE X (.Call (.Name x p) (e :: es) [] pos) (tCall sp [] E0 t) := by
  obtain ⟨f, fd, F, m, kp, b⟩ := c.ex
  exact pe_call F hr hg m kp b .nil pass0 ha hdb he hpl
theorem Cal.imp {P : Program} {w : World} {K : PySem.W.Frag} {mg : Str → Option Value} {base : Heap} {k : Nat} {x : Str} {ps : List Str} {sp sp' : L2.Sp} (c : Cal P w K mg base k x ps sp) (h : ∀ vs H Q E, sp' vs H Q E → sp vs H Q E) : Cal P w K mg base k x ps sp' := by
  obtain ⟨f, fd, F, m, kp, b⟩ := c.ex
  exact ⟨f, fd, F.imp h, m, kp, b⟩
/-- the built-ins' names are not the module's -/
structure Bt (mg : Str → Option Value) : Prop where
  len_ : mg "len" = none
  list_ : mg "list" = none
  enumerate_ : mg "enumerate" = none
  int_ : mg "int" = none
  bool_ : mg "bool" = none
  sum_ : mg "sum" = none
  sorted_ : mg "sorted" = none
  min_ : mg "min" = none
  max_ : mg "max" = none
  range_ : mg "range" = none
  isinstance_ : mg "isinstance" = none
  repr_ : mg "repr" = none
  tuple_ : mg "tuple" = none
  dict_ : mg "dict" = none
  abs_ : mg "abs" = none
  str_ : mg "str" = none
/-! ### heaps: all stays but the hand at a -/
/-- the hand: two whole numbers -/
def HandAt (H : Hp) (a : Addr) : Prop := ∃ x y : Int, H a = some (.lst [.int x, .int y]) ∧ 0 ≤ x ∧ 0 ≤ y ∧ y < 2147483587
structure Ext (a : Addr) (H H' : Hp) : Prop where
  keep : ∀ b o, H b = some o → b ≠ a → H' b = some o
  hand : HandAt H a → HandAt H' a
theorem Ext.refl {a : Addr} {H : Hp} : Ext a H H := ⟨fun _ _ h _ => h, fun h => h⟩
theorem Ext.trans {a : Addr} {H H1 H2 : Hp} (e : Ext a H H1) (f : Ext a H1 H2) : Ext a H H2 := ⟨fun b o h n => f.keep b o (e.keep b o h n) n, fun h => f.hand (e.hand h)⟩
theorem HandAt.same {a : Addr} {H H' : Hp} (s : Same H H') (h : HandAt H a) : HandAt H' a := by
  obtain ⟨x, y, e, r⟩ := h
  exact ⟨x, y, s _ _ e, r⟩
theorem Ext.same {a : Addr} {H H' : Hp} (s : Same H H') : Ext a H H' := ⟨fun b o h _ => s b o h, fun h => h.same s⟩
theorem same_new {H : Hp} {p : Addr} {o : HO} (h : H p = none) : Same H (upd H p o) := fun b x e => by
  rw [upd_ne (ne_of_none e h)]
  exact e
theorem Ext.new {a : Addr} {H : Hp} {p : Addr} {o : HO} (h : H p = none) : Ext a H (upd H p o) := .same (same_new h)
theorem HandAt.ne {a p : Addr} {H : Hp} (h : HandAt H a) (n : H p = none) : p ≠ a := by
  obtain ⟨x, y, e, r⟩ := h
  exact fun z => by rw [z, e] at n; cases n
theorem Ext.made {a : Addr} {H H' : Hp} (e : Ext a H H') (n : H a = none) : Same H H' := fun b o h => e.keep b o h (fun z => by rw [z, n] at h; cases h)
theorem Ext.free {a b : Addr} {H H' : Hp} (e : Ext a H H') (n : b ≠ a) (h : H' b = none) : H b = none := by
  cases q : H b with
  | none => rfl
  | some o => rw [e.keep b o q n] at h; cases h
/-- a list of whole numbers that stands still -/
def Nums (H : Hp) (a p : Addr) (ns : List Int) : Prop := H p = some (.lst (ns.map V.int)) ∧ p ≠ a
theorem Nums.up {H H' : Hp} {a p : Addr} {ns : List Int} (n : Nums H a p ns) (e : Ext a H H') : Nums H' a p ns := ⟨e.keep _ _ n.1 n.2, n.2⟩
theorem Nums.sq {K : PySem.W.Frag} {H : Hp} {a p : Addr} {ns : List Int} (n : Nums H a p ns) : SqL K H p (ns.map V.int) := .inl (.inl n.1)
theorem seqExt {K : PySem.W.Frag} {H H' : Hp} {a p : Addr} {xs : List V} (e : Ext a H H') (n : p ≠ a) (h : SqL K H p xs) : SqL K H' p xs := by
  rcases h with (h | ⟨o, h⟩) | h
  · exact .inl (.inl (e.keep _ _ h n))
  · exact .inl (.inr ⟨o, e.keep _ _ h n⟩)
  · exact .inr h
/-! ### numbers -/
theorem wide30 {n : Int} (h0 : 0 < n) (h : n < 2 ^ 62) : CDivW (0 : Int) n := wide_div (b := 62) h0 (by omega) (by decide) (by decide)
theorem divW {i n : Int} (h0 : 0 < n) (h : n < 2 ^ 62) : CDivW i n := wide_div (b := 62) h0 (by omega) (by decide) (by decide)
theorem mulW {i j : Int} (h1 : -(2 ^ 200) < i) (h2 : i < 2 ^ 200) (h3 : -(2 ^ 200) < j) (h4 : j < 2 ^ 200) : CMulW i j := wide_mul (a := 200) (b := 200) (by omega) (by omega) (by decide) (by decide) (by decide)
theorem small {n : Nat} (h : n ≤ 100000) : n ≤ sizeLine := Nat.le_trans h (by decide)
theorem smallLt {n : Nat} (h : n ≤ 100000) : n < sizeLine := Nat.lt_of_le_of_lt h (by decide)
theorem at0 {α : Type} {x : α} {r : List α} : atI (x :: r) 0 = some x := atI_nat (j := 0) rfl
theorem at1 {α : Type} {x y : α} {r : List α} : atI (x :: y :: r) 1 = some y := atI_nat (j := 1) rfl
/-! ### the promises of the law's own small defs -/
def spHand : L2.Sp := fun vs H Q _ => ∃ c k : Int, vs = [.int c, .int k] ∧ 0 ≤ k ∧ k ≤ 1000 ∧ ∀ p x y, H p = none → 0 ≤ x → 0 ≤ y → y < 2147483587 → Q (.ref p) (upd H p (.lst [.int x, .int y]))
def spDraw : L2.Sp := fun vs H Q _ => ∃ (a : Addr) (n : Int), vs = [.ref a, .int n] ∧ HandAt H a ∧ 0 < n ∧ n < 2 ^ 62 ∧ ∀ r H', 0 ≤ r → r < n → HandAt H' a → (∀ b, b ≠ a → H' b = H b) → Q (.int r) H'
theorem drawn {a : Addr} {H H' : Hp} (h : HandAt H' a) (k : ∀ b, b ≠ a → H' b = H b) : Ext a H H' := ⟨fun b o e n => by rw [k b n]; exact e, fun _ => h⟩
end Sp

namespace Sp
open PySem L2
/-! ### lists of whole numbers as data -/
abbrev di (ns : List Int) : PyData := .list (ns.map PyData.int)
theorem dpAll_ints {K : PySem.W.Frag} {H : Hp} : ∀ ns : List Int, DpAll K H (ns.map V.int) (ns.map PyData.int)
  | [] => .nil
  | n :: ns => .cons (.int n) (dpAll_ints ns)
theorem dp_ints {K : PySem.W.Frag} {H : Hp} {p : Addr} {ns : List Int} (h : SqL K H p (ns.map V.int)) : Dp K H (.ref p) (di ns) := .lst h (dpAll_ints ns)
theorem lay_ints : ∀ ns : List Int, PyData.canLayAll0 (ns.map PyData.int) = true
  | [] => by rw [List.map_nil, PyData.canLayAll0]
  | n :: ns => by rw [List.map_cons, PyData.canLayAll0, lay_ints ns, PyData.canLay0]; rfl
theorem dep_ints : ∀ ns : List Int, PyData.depthAll (ns.map PyData.int) = 0
  | [] => by rw [List.map_nil, PyData.depthAll]
  | n :: ns => by rw [List.map_cons, PyData.depthAll, dep_ints ns, PyData.depth]; rfl
theorem shaped_ints (ns : List Int) : SeqAt.shaped (di ns) = true := by
  unfold SeqAt.shaped
  rw [PyData.canLay0, lay_ints, PyData.depth, dep_ints]
  rfl
theorem eqvAll_ints : ∀ ns ms : List Int, PyData.eqvAll (ns.map PyData.int) (ms.map PyData.int) = decide (ns = ms)
  | [], [] => by rw [List.map_nil, PyData.eqvAll]; rfl
  | [], _ :: _ => by rw [List.map_nil, List.map_cons, PyData.eqvAll]; rfl
  | _ :: _, [] => by rw [List.map_nil, List.map_cons, PyData.eqvAll]; rfl
  | n :: ns, m :: ms => by
    rw [List.map_cons, List.map_cons, PyData.eqvAll, eqvAll_ints ns ms, PyData.eqv]
    by_cases h : n = m
    · by_cases h2 : ns = ms
      · subst h; subst h2; simp
      · simp [h, h2]
    · simp [h]
theorem eqv_ints (ns ms : List Int) : PyData.eqv (di ns) (di ms) = decide (ns = ms) := by rw [PyData.eqv, eqvAll_ints]
theorem eqvAll_same {xs : List PyData} (h : ∀ x ∈ xs, PyData.eqv x x = true) : PyData.eqvAll xs xs = true := by
  induction xs with
  | nil => rw [PyData.eqvAll]
  | cons x xs ih => rw [PyData.eqvAll, h x List.mem_cons_self, ih fun y hy => h y (List.mem_cons_of_mem _ hy)]; rfl
theorem SqL.new {K : PySem.W.Frag} {H : Hp} {p : Addr} {xs : List V} (h : H p = some (.lst xs)) : SqL K H p xs := .inl (.inl h)
theorem rep_one {x : V} (k : Nat) : (List.replicate k [x]).flatten = List.replicate k x := by
  induction k with
  | zero => rfl
  | succ k ih => rw [List.replicate_succ, List.flatten_cons, ih]; rfl
theorem rep_int (x : Int) (k : Nat) : List.replicate k (V.int x) = (List.replicate k x).map V.int := by rw [List.map_replicate]
theorem cut_len (xs : List V) (lo hi : Option Int) : (cutV xs lo hi).length ≤ xs.length := cutV_length xs lo hi
theorem cut_map {ns : List Int} (lo hi : Option Int) : ∃ ms : List Int, cutV (ns.map V.int) lo hi = ms.map V.int ∧ ms.length ≤ ns.length ∧ ∀ m ∈ ms, m ∈ ns := by
  refine ⟨(ns.drop (HT.sIx ns.length 0 lo)).take (HT.sIx ns.length ns.length hi - HT.sIx ns.length 0 lo), ?_, ?_, ?_⟩
  · unfold cutV
    rw [List.length_map, List.map_take, List.map_drop]
  · exact Nat.le_trans (List.length_take_le' _ _) (by rw [List.length_drop]; omega)
  · intro m hm
    exact List.mem_of_mem_drop (List.mem_of_mem_take hm)
theorem int_at {ns : List Int} {i : Nat} {x : V} (h : (ns.map V.int)[i]? = some x) : ∃ n, ns[i]? = some n ∧ x = .int n := by
  rw [List.getElem?_map] at h
  cases e : ns[i]? with
  | none => rw [e] at h; cases h
  | some n => rw [e] at h; exact ⟨n, rfl, (Option.some.inj h).symm⟩
theorem ref_at {ts : List Addr} {i : Nat} {x : V} (h : (ts.map V.ref)[i]? = some x) : ∃ t, ts[i]? = some t ∧ x = .ref t := by
  rw [List.getElem?_map] at h
  cases e : ts[i]? with
  | none => rw [e] at h; cases h
  | some n => rw [e] at h; exact ⟨n, rfl, (Option.some.inj h).symm⟩
theorem int_mem {ns : List Int} {i : Nat} {n : Int} (h : ns[i]? = some n) : n ∈ ns := List.mem_of_getElem? h
/-- the item at a place of a written list, the place drawn -/
theorem at_draw {α : Type} {xs : List α} {r : Int} (h0 : 0 ≤ r) (h1 : r < xs.length) : ∃ x, atI xs r = some x ∧ x ∈ xs := by
  obtain ⟨j, rfl⟩ : ∃ j : Nat, r = (j : Int) := ⟨r.toNat, by omega⟩
  have hj : j < xs.length := by omega
  exact ⟨xs[j], atI_nat (List.getElem?_eq_getElem hj), List.getElem_mem hj⟩
/-! ### the promises -/
def spCells (K : PySem.W.Frag) : L2.Sp := fun vs H Q _ => ∃ (s : Addr) (m : Nat) (ns : List Int), vs = [.ref s, .int m] ∧ SqL K H s (ns.map V.int) ∧ ns.length ≤ 63 ∧ m ≤ 63 ∧
  ∀ (H' : Hp) (p : Addr) (ts : List Addr) (cs : List Int), Same H H' → H p = none → H' p = some (.lst (ts.map V.ref)) → ts.length = cs.length → cs.length ≤ 64 →
    (∀ (j : Nat) (t : Addr) (c : Int), ts[j]? = some t → cs[j]? = some c → H' t = some (.tup [.int (j : Int), .int c])) → Q (.ref p) H'
def spGreat (K : PySem.W.Frag) : L2.Sp := fun vs H Q _ => ∃ (s : Addr) (ns : List Int), vs = [.ref s] ∧ SqL K H s (ns.map V.int) ∧ ∀ b, Q (.bl b) H
/-- sorted, none beyond 10 ** 15 -/
def Fine (ns : List Int) : Prop := ns.Pairwise (· ≤ ·) ∧ ∀ n ∈ ns, -1000000000000000 ≤ n ∧ n ≤ 1000000000000000
def spRow : L2.Sp := fun vs H Q _ => ∃ (a : Addr) (lo hi : Nat), vs = [.ref a, .int (lo : Int), .int (hi : Int)] ∧ HandAt H a ∧ lo ≤ hi ∧ hi ≤ 300 ∧
  ∀ (p : Addr) (ns : List Int) (H' : Hp), Ext a H H' → H p = none → H' p = some (.lst (ns.map V.int)) → lo ≤ ns.length → ns.length ≤ hi → Fine ns → Q (.ref p) H'
def spWhole : L2.Sp := fun vs H Q _ => ∃ x y : Int, vs = [.int x, .int y] ∧ Q (.bl (decide (x = y))) H
end Sp
namespace Sp
open PySem L2
/-! ### the numbers of a row below one -/
def cntB (ns : List Int) (n : Int) : Nat := ns.countP fun x => decide (x < n)
def spBelow (K : PySem.W.Frag) : L2.Sp := fun vs H Q _ => ∃ (p : Addr) (ns : List Int) (n : Int), vs = [.ref p, .int n] ∧ SqL K H p (ns.map V.int) ∧ ns.Pairwise (· ≤ ·) ∧ Q (.int (cntB ns n : Nat)) H
theorem cntB_le (ns : List Int) (n : Int) : cntB ns n ≤ ns.length := List.countP_le_length
/-- what stands ahead of the count is below, what stands behind is not -/
theorem cntB_lt : ∀ {ns : List Int} {n : Int}, ns.Pairwise (· ≤ ·) → ∀ {i : Nat} {x : Int}, ns[i]? = some x → (x < n ↔ i < cntB ns n)
  | [], n, _, i, x, h => by simp at h
  | y :: ns, n, hp, i, x, h => by
    have hp' := List.pairwise_cons.mp hp
    unfold cntB
    rw [List.countP_cons]
    by_cases hy : y < n
    · rw [if_pos (decide_eq_true hy)]
      cases i with
      | zero =>
        have e : y = x := Option.some.inj h
        subst e
        exact ⟨fun _ => Nat.succ_pos _, fun _ => hy⟩
      | succ i =>
        have ih := cntB_lt (n := n) hp'.2 (i := i) (x := x) h
        unfold cntB at ih
        rw [ih]
        omega
    · have z : List.countP (fun x => decide (x < n)) ns = 0 := by
        rw [List.countP_eq_zero]
        intro a ha hn
        have h1 := hp'.1 a ha
        have h2 := of_decide_eq_true hn
        omega
      rw [if_neg (by simpa using hy), z]
      cases i with
      | zero =>
        have e : y = x := Option.some.inj h
        subst e
        exact ⟨fun h => absurd h hy, fun h => absurd h (Nat.lt_irrefl _)⟩
      | succ i =>
        have h1 := hp'.1 x (List.mem_of_getElem? h)
        constructor
        · intro h2; omega
        · intro h2; omega
end Sp
namespace Sp
open PySem L2
def spTo (K : PySem.W.Frag) : L2.Sp := fun vs H Q _ => ∃ (p : Addr) (ns : List Int) (n : Int), vs = [.ref p, .int n] ∧ SqL K H p (ns.map V.int) ∧ ns.Pairwise (· ≤ ·) ∧ Q (.int (cntB ns (n + 1) : Nat)) H
end Sp
namespace Sp
open PySem L2
/-- by one step -/
def stepped (b s : Int) (m : Nat) : List Int := (List.range m).map fun (k : Nat) => b + s * (k : Int)
theorem stepped_succ (b s : Int) (m : Nat) : stepped b s (m + 1) = stepped b s m ++ [b + s * (m : Int)] := by
  unfold stepped
  rw [List.range_succ, List.map_append, List.map_singleton]
theorem stepped_len (b s : Int) (m : Nat) : (stepped b s m).length = m := by unfold stepped; rw [List.length_map, List.length_range]
theorem stepped_mem {b s x : Int} {m : Nat} (h : x ∈ stepped b s m) : ∃ k : Nat, k < m ∧ x = b + s * (k : Int) := by
  unfold stepped at h
  obtain ⟨k, hk, rfl⟩ := List.mem_map.mp h
  exact ⟨k, List.mem_range.mp hk, rfl⟩
theorem stepped_sorted {b s : Int} (hs : 0 ≤ s) : ∀ m : Nat, (stepped b s m).Pairwise (· ≤ ·)
  | 0 => List.Pairwise.nil
  | m + 1 => by
    rw [stepped_succ]
    refine List.pairwise_append.mpr ⟨stepped_sorted hs m, List.pairwise_singleton _ _, fun x hx y hy => ?_⟩
    obtain ⟨k, hk, rfl⟩ := stepped_mem hx
    rw [List.mem_singleton.mp hy]
    have h1 : (k : Int) ≤ (m : Int) := by omega
    have h2 := Int.mul_le_mul_of_nonneg_left h1 hs
    omega
theorem perm_fine {ns ms : List Int} (hp : ms.Perm ns) (hs : ms.Pairwise (· ≤ ·)) (hb : ∀ n ∈ ns, -1000000000000000 ≤ n ∧ n ≤ 1000000000000000) : Fine ms := ⟨hs, fun n hn => hb n (hp.mem_iff.mp hn)⟩
end Sp
namespace Sp
open PySem L2
theorem fil_take {α : Type} {xs : List α} {f : α → Bool} {i : Nat} {x : α} (h : xs[i]? = some x) : (xs.take (i + 1)).filter f = (xs.take i).filter f ++ (if f x = true then [x] else []) := by
  rw [List.take_add_one, h, List.filter_append]
  cases e : f x with
  | true => simp [e]
  | false => simp [e]
theorem take_all {α : Type} (xs : List α) : xs.take xs.length = xs := List.take_length
theorem fil_len (ns : List Int) (n : Int) : (ns.filter fun x => decide (x < n)).length = cntB ns n := List.countP_eq_length_filter.symm
theorem fil_len_le (ns : List Int) (n : Int) : (ns.filter fun x => decide (x ≤ n)).length = cntB ns (n + 1) := by
  unfold cntB
  rw [List.countP_eq_length_filter]
  congr 1
  refine List.filter_congr fun x _ => ?_
  by_cases h : x ≤ n
  · rw [decide_eq_true h, decide_eq_true (show x < n + 1 by omega)]
  · rw [decide_eq_false h, decide_eq_false (show ¬ x < n + 1 by omega)]
def spRight3 (K : PySem.W.Frag) : L2.Sp := fun vs H Q _ => ∃ (p : Addr) (ns : List Int) (n : Int), vs = [.ref p, .int n] ∧ SqL K H p (ns.map V.int) ∧ ns.Pairwise (· ≤ ·) ∧ ns.length ≤ 1000 ∧ ∀ H', Same H H' → Q (.bl true) H'
end Sp
namespace Sp
open PySem L2
/-- a turn of [x for x in ns if f x]: kept or left out -/
theorem fil_yes {H0 H : Hp} {D : Addr} {ns : List Int} {f : Int → Bool} {i : Nat} {y : Int} (nD : H0 D = none) (w1 : Same H0 H) (w2 : H D = some (.lst (((ns.take i).filter f).map V.int))) (hy : ns[i]? = some y) (hl : ns.length ≤ 1000) (h : f y = true) :
    ∃ acc, H D = some (.lst acc) ∧ acc.length < sizeLine ∧ Same H0 (upd H D (.lst (acc ++ [V.int y]))) ∧ (upd H D (.lst (acc ++ [V.int y]))) D = some (.lst (((ns.take (i + 1)).filter f).map V.int)) := by
  refine ⟨_, w2, smallLt ?_, fun c o hc => ?_, ?_⟩
  · have h1 : ((ns.take i).filter f).length ≤ (ns.take i).length := List.length_filter_le _ _
    have h2 : (ns.take i).length ≤ ns.length := List.length_take_le' _ _
    rw [List.length_map]
    omega
  · rw [upd_ne (ne_of_none hc nD)]
    exact w1 c o hc
  · rw [upd_same, fil_take hy, if_pos h, List.map_append]
    rfl
theorem fil_no {H : Hp} {D : Addr} {ns : List Int} {f : Int → Bool} {i : Nat} {y : Int} (w2 : H D = some (.lst (((ns.take i).filter f).map V.int))) (hy : ns[i]? = some y) (h : ¬ f y = true) : H D = some (.lst (((ns.take (i + 1)).filter f).map V.int)) := by
  rw [fil_take hy, if_neg h, List.append_nil]
  exact w2
end Sp
namespace Sp
open PySem L2
def spLaw (K : PySem.W.Frag) : L2.Sp := fun vs H Q _ => ∃ (a : Addr) (ns : List Int), vs = [.ref a] ∧ SqL K H a (ns.map V.int) ∧ ns.length ≤ 63 ∧ ∀ H', Q (.bl true) H'
/-- a row of the law: sorted, small, no hand -/
structure RowAt (H : Hp) (a p : Addr) (ns : List Int) : Prop where
  at_ : H p = some (.lst (ns.map V.int))
  ne : p ≠ a
  fine : Fine ns
  len : ns.length ≤ 300
theorem RowAt.up {H H' : Hp} {a p : Addr} {ns : List Int} (r : RowAt H a p ns) (e : Ext a H H') : RowAt H' a p ns := ⟨e.keep _ _ r.at_ r.ne, r.ne, r.fine, r.len⟩
theorem RowAt.sq {K : PySem.W.Frag} {H : Hp} {a p : Addr} {ns : List Int} (r : RowAt H a p ns) : SqL K H p (ns.map V.int) := SqL.new r.at_
end Sp
namespace Sp
open PySem L2
theorem RowAt.hne {H : Hp} {a p : Addr} {ns : List Int} (r : RowAt H a p ns) : p ≠ a := r.ne
/-- one more item at a comprehension's list, the hand apart -/
theorem ext_app {a D : Addr} {H0 H : Hp} {xs : List V} (nD : H0 D = none) (nDa : D ≠ a) (e : Ext a H0 H) : Ext a H0 (upd H D (.lst xs)) := ⟨fun c o hc hca => by
    rw [upd_ne (ne_of_none hc nD)]
    exact e.keep c o hc hca, fun hh => by
    obtain ⟨u, v, e1, r⟩ := e.hand hh
    exact ⟨u, v, by rw [upd_ne nDa.symm]; exact e1, r⟩⟩
theorem same_app {D : Addr} {H0 H : Hp} {xs : List V} (nD : H0 D = none) (e : Same H0 H) : Same H0 (upd H D (.lst xs)) := fun c o hc => by
    rw [upd_ne (ne_of_none hc nD)]
    exact e c o hc
theorem map_app1 {xs : List Int} {y : Int} : xs.map V.int ++ [V.int y] = (xs ++ [y]).map V.int := by rw [List.map_append]; rfl
end Sp

namespace Rv
open PySem PySem.W PyProof.Rows L2
section
variable {prog : Program} {w : World} {A : Around} {E : Value → Shared → Prop} {s : Shared}
/-- (u, v)[::-1], raw -/
theorem get_rev2 {t sl : Addr} {u v vs : Value} {Q : Value → Shared → Prop} (ht : IsTup s.heap t #[u, v]) (hs : s.heap.IsSliceOf sl .none .none vs) (ps : IsPart vs (some (-1)))
    (h : Q (.ref s.heap.objs.size) { s with heap := s.heap.push { cls := .type "tuple", data := .seq #[v, u] } }) : wpAny (model prog w) A (getItem (.ref t) (.ref sl)) Q E s := by
  obtain ⟨os, hos, hcs, hds⟩ := id hs
  have hTs : s.TypeIs (.ref sl) "slice" := ⟨os, hos, hcs⟩
  unfold getItem
  try with_reducible refine wpAny_holding ?_
  first | refine wpAny_bind (wpAny_pure ?_) | skip
  refine wpAny_bind (wpAny_sequenceKey ht.typeIs (by decide) ?_)
  refine wpAny_bind (wpAny_callSpecial?_slot (name := Str.ofString "__getitem__") ht.typeIs PyProof.Rows.slot_tuple_getitem (wpAny_call_entry PyProof.Rows.slot_tuple_getitem ht.typeIs entry_tuple_getitem ?_ (args_tuple_getitem _ _)))
  show wpAny _ _ (Builtin.Tuple.tupleItemsOf (.ref t) >>= _) _ _ s
  refine wpAny_bind (tupleItemsOf_ ht ?_)
  refine wpAny_bind (wpAny_typeOf hTs ?_)
  rw [if_pos (by decide)]
  refine wpAny_bind ?_
  unfold Builtin.Slice.sliceApplied Builtin.Slice.sliceFields
  refine wpAny_bind (wpAny_bind (wpAny_field hos hds (x := Value.none) rfl (wpAny_bind (wpAny_field hos hds (x := Value.none) rfl (wpAny_bind (wpAny_field hos hds (x := vs) rfl (wpAny_pure ?_)))))))
  refine wpAny_bind (HT.slicePart_ ps ?_)
  show wpAny _ _ (if ((-1 : Int) == 0) = true then _ else _) _ _ s
  rw [if_neg (by decide)]
  refine wpAny_bind (slicePart_none (wpAny_bind (slicePart_none (wpAny_bind (wpAny_pure ?_)))))
  show wpAny _ _ (match Builtin.Slice.sliceAdjust none none (-1) (2 : Int) with | (lo, hi) => pure (lo, (-1 : Int), Builtin.Slice.slicePlaces lo hi (-1))) _ _ s
  have e1 : Builtin.Slice.sliceAdjust none none (-1) (2 : Int) = (1, -1) := by decide +kernel
  have e2 : Builtin.Slice.slicePlaces (1 : Int) (-1) (-1) = 2 := by decide +kernel
  rw [e1]
  show wpAny _ _ (pure ((1 : Int), (-1 : Int), Builtin.Slice.slicePlaces (1 : Int) (-1) (-1))) _ _ s
  rw [e2]
  refine wpAny_pure ?_
  show wpAny _ _ (if ((1 : Int) == 0 && (-1 : Int) == 1 && (2 : Nat) == #[u, v].size) = true then _ else _) _ _ s
  rw [if_neg (by rw [show ((1 : Int) == 0) = false from rfl]; exact Bool.false_ne_true)]
  have e3 : ((List.range 2).filterMap fun (k : Nat) => #[u, v][((1 : Int) + (k : Int) * (-1)).toNat]?).toArray = #[v, u] := rfl
  rw [e3]
  have htake : sizeOk (.seq #[v, u]) := by show 2 ≤ sizeLine; decide
  first
    | exact wpAny_bind (m := Builtin.Tuple.tupleExact _) (wpAny_newObj_type (wpAny_pure ⟨_, rfl, wpAny_pure h⟩) htake)
    | exact wpAny_bind (m := Builtin.Tuple.tupleExact _) (wpAny_newObj_type (wpAny_bind (wpAny_pure (wpAny_pure ⟨_, rfl, wpAny_pure h⟩))) htake)
    | exact wpAny_bind (wpAny_bind (m := Builtin.Tuple.tupleExact _) (wpAny_newObj_type (wpAny_pure (wpAny_pure ⟨_, rfl, wpAny_pure h⟩)) htake))
end
/-- t[::-1], t a pair -/
def tRev2 (K : PySem.W.Frag) (te : TE) : TE := fun σ H Q => te σ H fun x H1 => ∃ a u v, x = .ref a ∧ SqT K H1 a [u, v] ∧ ∀ p, H1 p = none → Q (.ref p) (upd H1 p (.tup [v, u]))
theorem pe_rev2 {X : Cx} {e : Expr} {te : TE} {k : Nat} {p1 p2 p3 pos : Pos} (he : PE X e te) : PE X (.Subscript e (.Slice none none (some (.UnaryOp .USub (.Constant (.int 1) k p1) p2)) p3) pos) (tRev2 X.K te) := by
  refine ⟨fun pins s σ H Q I h => ?_⟩
  refine Subscript_ (thn (he.run pins s σ H _ I h) fun v s1 ⟨x, H1, I1, r1, q1⟩ => ?_)
  obtain ⟨a, u, w', rfl, hx, q⟩ := q1
  cases r1
  have hst : PO X (some (.UnaryOp .USub (.Constant (.int 1) k p1) p2)) (tPart (tUn (rU fun i => .int (-i)) (tC (.int 1)))) := po_some (pe_un un_neg pe_int)
  refine wpAny_Slice (thn (po_none.run pins s1 σ H1 (fun o H2 => o = none ∧ H2 = H1) I1 ⟨rfl, rfl⟩) fun vl s2 ⟨l, H2, I2, pl, el, e2⟩ => ?_)
  subst el e2
  refine thn (po_none.run pins s2 σ H2 (fun o H3 => o = none ∧ H3 = H2) I2 ⟨rfl, rfl⟩) fun vu s3 ⟨u3, H3, I3, pu, eu, e3⟩ => ?_
  subst eu e3
  refine thn (hst.run pins s3 σ H3 (fun o H4 => o = some (-1) ∧ H4 = H3) I3 ⟨1, rfl, -1, rfl, rfl, rfl⟩) fun vs s4 ⟨o, H4, I4, ps, eo, e4⟩ => ?_
  subst eo e4
  cases pl
  cases pu
  have I5 : Inv X pins σ H4 { s4 with heap := s4.heap.push { cls := .type "slice", data := .fields #[Value.none, Value.none, vs] } } := I4.kept (t' := s4.toks) fun b ob q => Heap.get?_push_of_some _ q
  obtain ⟨its, r, ht, hz⟩ := I5.tuple hx
  cases r with
  | cons ra rr =>
    cases rr with
    | cons rb rc =>
      cases rc
      show wpAny (model X.prog X.w) X.A (subscriptTail e (.Slice none none (some (.UnaryOp .USub (.Constant (.int 1) k p1) p2)) p3) (.ref a) (.ref s4.heap.objs.size)) (EP X pins σ Q) X.xe { s4 with heap := s4.heap.push { cls := .type "slice", data := .fields #[Value.none, Value.none, vs] } }
      refine tail_any (ops := [.ref a, .ref s4.heap.objs.size]) ht.typeIs (PyProof.Rows.slot_tuple_getitem.lookup) ?_ (by with_unfolding_all rfl)
      refine get_rev2 ht (Heap.IsSliceOf.new _ Value.none Value.none vs) ps ?_
      exact ⟨.ref _, _, I5.laid (t' := s4.toks) (o := .tup [w', u]) (fun b ob q => Heap.get?_push_of_some _ q) (Nat.le_refl _) ⟨by show 2 ≤ sizeLine; decide, _, .cons rb (.cons ra .nil), IsTup.new _ _⟩, rfl, q _ (I5.hok.fresh (Nat.le_refl _))⟩
end Rv

namespace Sp
open PySem L2
/-! ### sums below -/
def cntS (ns ms : List Int) (n : Int) : Nat := (ns.map fun x => cntB ms (n - x)).sum
theorem cntB_mono {ms : List Int} {n m : Int} (h : n ≤ m) : cntB ms n ≤ cntB ms m := by
  unfold cntB
  refine List.countP_mono_left fun x _ hx => ?_
  have := of_decide_eq_true hx
  exact decide_eq_true (by omega)
theorem cntS_nil (ms : List Int) (n : Int) : cntS [] ms n = 0 := rfl
theorem cntS_snoc (ns ms : List Int) (x n : Int) : cntS (ns ++ [x]) ms n = cntS ns ms n + cntB ms (n - x) := by
  unfold cntS
  rw [List.map_append, List.sum_append]
  rfl
theorem take_snoc {α : Type} {xs : List α} {i : Nat} {x : α} (h : xs[i]? = some x) : xs.take (i + 1) = xs.take i ++ [x] := by rw [List.take_add_one, h]; rfl
theorem sorted_le {ns : List Int} (hp : ns.Pairwise (· ≤ ·)) {i j : Nat} {x y : Int} (hx : ns[i]? = some x) (hy : ns[j]? = some y) (h : i ≤ j) : x ≤ y := by
  obtain ⟨h1, e1⟩ := List.getElem?_eq_some_iff.mp hx
  obtain ⟨h2, e2⟩ := List.getElem?_eq_some_iff.mp hy
  rcases Nat.lt_or_eq_of_le h with h | h
  · have := (List.pairwise_iff_getElem.mp hp) i j h1 h2 h
    rw [e1, e2] at this
    exact this
  · subst h
    rw [hx] at hy
    rw [Option.some.inj hy]
    exact Int.le_refl _
theorem cnt_sum (ms : List Int) (x n : Int) : (ms.filter fun y => decide (x + y < n)).length = cntB ms (n - x) := by
  unfold cntB
  rw [List.countP_eq_length_filter]
  congr 1
  refine List.filter_congr fun y _ => ?_
  by_cases h : x + y < n
  · rw [decide_eq_true h, decide_eq_true (show y < n - x by omega)]
  · rw [decide_eq_false h, decide_eq_false (show ¬ y < n - x by omega)]
theorem cnt_sum_le (ms : List Int) (x n : Int) : (ms.filter fun y => decide (x + y ≤ n)).length = cntB ms (n + 1 - x) := by
  unfold cntB
  rw [List.countP_eq_length_filter]
  congr 1
  refine List.filter_congr fun y _ => ?_
  by_cases h : x + y ≤ n
  · rw [decide_eq_true h, decide_eq_true (show y < n + 1 - x by omega)]
  · rw [decide_eq_false h, decide_eq_false (show ¬ y < n + 1 - x by omega)]
def spSums (K : PySem.W.Frag) : L2.Sp := fun vs H Q _ => ∃ (p q : Addr) (ns ms : List Int) (n : Int), vs = [.ref p, .ref q, .int n] ∧ SqL K H p (ns.map V.int) ∧ SqL K H q (ms.map V.int) ∧ ns.Pairwise (· ≤ ·) ∧ ms.Pairwise (· ≤ ·) ∧ Q (.int (cntS ns ms n : Nat)) H
def spSumsTo (K : PySem.W.Frag) : L2.Sp := fun vs H Q _ => ∃ (p q : Addr) (ns ms : List Int) (n : Int), vs = [.ref p, .ref q, .int n] ∧ SqL K H p (ns.map V.int) ∧ SqL K H q (ms.map V.int) ∧ ns.Pairwise (· ≤ ·) ∧ ms.Pairwise (· ≤ ·) ∧ Q (.int (cntS ns ms (n + 1) : Nat)) H
/-- the law's own count, pair by pair -/
def spDue (K : PySem.W.Frag) (d : Int) : L2.Sp := fun vs H Q _ => ∃ (p q : Addr) (ns ms : List Int) (n : Int), vs = [.ref p, .ref q, .int n] ∧ SqL K H p (ns.map V.int) ∧ SqL K H q (ms.map V.int) ∧ ms.length ≤ 1000 ∧ ∀ H', Same H H' → Q (.int (cntS ns ms (n + d) : Nat)) H'
/-- two rows in a pair -/
def spTwo : L2.Sp := fun vs H Q _ => ∃ (a : Addr) (b : Bool), vs = [.ref a, .bl b] ∧ HandAt H a ∧
  ∀ (t p q : Addr) (ns ms : List Int) (H' : Hp), Ext a H H' → H' t = some (.tup [.ref p, .ref q]) → t ≠ a → RowAt H' a p ns → RowAt H' a q ms → Q (.ref t) H'
def Mid (zs : List Int) : Prop := ∀ z ∈ zs, -(2 ^ 150) < z ∧ z < 2 ^ 150
def spAsked : L2.Sp := fun vs H Q _ => ∃ (a p q : Addr) (ns ms : List Int), vs = [.ref a, .ref p, .ref q] ∧ HandAt H a ∧ RowAt H a p ns ∧ RowAt H a q ms ∧
  ∀ (r : Addr) (zs : List Int) (H' : Hp), Ext a H H' → H r = none → H' r = some (.lst (zs.map V.int)) → zs.length ≤ 9 → Mid zs → Q (.ref r) H'
end Sp
namespace Sp
open PySem L2
theorem at_map {ns : List Int} {r x : Int} (h : atI ns r = some x) : atI (ns.map V.int) r = some (.int x) := by
  unfold atI at h ⊢
  rw [List.length_map]
  cases e : ixN ns.length r with
  | none => rw [e] at h; cases h
  | some j =>
    rw [e] at h
    show (ns.map V.int)[j]? = _
    rw [List.getElem?_map, show ns[j]? = some x from h]
    rfl
end Sp
namespace Sp
open PySem L2
theorem shaped_two (ns ms : List Int) : SeqAt.shaped (.list [di ns, di ms]) = true := by
  unfold SeqAt.shaped
  simp only [PyData.canLay0, PyData.canLayAll0, lay_ints, PyData.depth, PyData.depthAll, dep_ints]
  rfl
theorem eqv_two (ns ms : List Int) : PyData.eqv (.list [di ns, di ms]) (.list [di ns, di ms]) = true := by
  rw [PyData.eqv]
  refine eqvAll_same fun x hx => ?_
  simp only [List.mem_cons, List.not_mem_nil, or_false] at hx
  rcases hx with rfl | rfl
  · rw [eqv_ints]; exact decide_eq_true rfl
  · rw [eqv_ints]; exact decide_eq_true rfl
theorem dp_two {K : PySem.W.Frag} {H : Hp} {l p q : Addr} {ns ms : List Int} (h : H l = some (.lst [.ref p, .ref q])) (hp : SqL K H p (ns.map V.int)) (hq : SqL K H q (ms.map V.int)) : Dp K H (.ref l) (.list [di ns, di ms]) :=
  .lst (SqL.new h) (.cons (dp_ints hp) (.cons (dp_ints hq) .nil))
end Sp

namespace Sp
open PySem L2
/-- a loop over enumerate(list), the list standing still -/
theorem for_enum {K : PySem.W.Frag} {a : Addr} {xs : List V} {g : TG} {tb : TS} {D : Ends} {σ : L2.St} {H : Hp} (Pv : Nat → L2.St → Hp → Prop) (h0 : Pv 0 σ H) (hl : ∀ i σ H, i ≤ xs.length → Pv i σ H → SqL K H a xs)
    (hs : ∀ i x σ H T, xs[i]? = some x → Pv i σ H → H T = none → g (.ref T) σ (upd H T (.tup [.int (i : Nat), x])) fun σ2 H2 => tb { D with nx := Pv (i + 1), ct := Pv (i + 1), bk := D.nx } σ2 H2) (hd : ∀ σ H, Pv xs.length σ H → D.nx σ H) :
    ∃ W : Nat → Nat → L2.St → Hp → Prop, (∃ m, W 0 m σ H) ∧ ∀ i m σ H, W i m σ H →
      ((Ite K a).stop i H ∧ D.nx σ H) ∨ ((Ite K a).go i H ∧ ∃ N : L2.St → Hp → Prop, (∀ σ' H', N σ' H' → ∃ m', m' < m ∧ W (i + 1) m' σ' H') ∧ ∀ x H', (Ite K a).yld i H x H' → g x σ H' fun σ2 H2 => tb { D with nx := N, ct := N, bk := D.nx } σ2 H2) := by
  refine ⟨fun i m σ H => m = xs.length - i ∧ i ≤ xs.length ∧ Pv i σ H, ⟨xs.length, by simp, Nat.zero_le _, h0⟩, fun i m σ H w => ?_⟩
  obtain ⟨rfl, hi, p⟩ := w
  have q := hl i σ H hi p
  by_cases hlt : i < xs.length
  · refine .inr ⟨⟨xs, xs[i], q, List.getElem?_eq_getElem hlt⟩, Pv (i + 1), fun σ' H' p' => ⟨xs.length - (i + 1), by omega, rfl, hlt, p'⟩, fun x H' y => ?_⟩
    obtain ⟨T, z, rfl, nT, rfl, f⟩ := y
    exact hs i z σ H T (f xs q) p nT
  · obtain rfl : i = xs.length := by omega
    exact .inl ⟨⟨xs, q, Nat.le_refl _⟩, hd σ H p⟩
/-! ### is_row, of anything -/
abbrev kinds : List String := ["bool", "str", "NoneType", "list", "tuple", "dict"]
def NoInt (K : PySem.W.Frag) (H : Hp) (x : V) : Prop := ∃ T, T ∈ kinds ∧ TyX K H x (.type T)
def Kn (K : PySem.W.Frag) (H : Hp) (x : V) : Prop := (∃ n, x = .int n) ∨ NoInt K H x
theorem TyX.up {K : PySem.W.Frag} {H H' : Hp} {x : V} {t : Value} (s : Same H H') (h : TyX K H x t) : TyX K H' x t := by
  cases h with
  | base b =>
    cases b with
    | non => exact .base .non
    | bl y => exact .base (.bl y)
    | int i => exact .base (.int i)
    | str y => exact .base (.str y)
    | flt y => exact .base (.flt y)
    | lst e => exact .base (.lst (s _ _ e))
    | frz e => exact .base (.frz (s _ _ e))
    | tup e => exact .base (.tup (s _ _ e))
    | dK e => exact .base (.dK (s _ _ e))
    | dT e => exact .base (.dT (s _ _ e))
    | ins e c1 c2 c3 c4 c5 => exact .base (.ins (s _ _ e) c1 c2 c3 c4 c5)
  | byt b => exact .byt b
  | set e => exact .set (s _ _ e)
  | kList e c => exact .kList e c
  | kTuple e c => exact .kTuple e c
  | kDict e c => exact .kDict e c
  | fTuple e => exact .fTuple (s _ _ e)
  | fDict e => exact .fDict (s _ _ e)
theorem NoInt.up {K : PySem.W.Frag} {H H' : Hp} {x : V} (s : Same H H') (h : NoInt K H x) : NoInt K H' x := let ⟨T, m, t⟩ := h; ⟨T, m, TyX.up s t⟩
theorem Kn.up {K : PySem.W.Frag} {H H' : Hp} {x : V} (s : Same H H') (h : Kn K H x) : Kn K H' x := h.imp id fun z => z.up s
theorem NoInt.ne {K : PySem.W.Frag} {H : Hp} {x : V} (h : NoInt K H x) (n : Int) : x ≠ .int n := by
  rintro rfl
  obtain ⟨T, m, t⟩ := h
  cases t with
  | base b =>
    cases b
    simp at m
def IsRow (xs : List V) : Prop := ∃ ns : List Int, xs = ns.map V.int ∧ ns.Pairwise (· ≤ ·)
def spIsWhole (K : PySem.W.Frag) : L2.Sp := fun vs H Q _ => ∃ x : V, vs = [x] ∧ (((∃ n, x = .int n) ∧ Q (.bl true) H) ∨ (NoInt K H x ∧ Q (.bl false) H))
def spIsRow (K : PySem.W.Frag) : L2.Sp := fun vs H Q _ => ∃ x : V, vs = [x] ∧ ((∃ (p : Addr) (xs : List V), x = .ref p ∧ SqL K H p xs ∧ (∀ y ∈ xs, Kn K H y) ∧ ∀ (b : Bool) (H' : Hp), (b = true ↔ IsRow xs) → Same H H' → Q (.bl b) H') ∨
  (∃ T, T ∈ ["int", "bool", "str", "NoneType", "tuple", "dict"] ∧ TyX K H x (.type T) ∧ Q (.bl false) H))
theorem IsRow.map (ns : List Int) : IsRow (ns.map V.int) ↔ ns.Pairwise (· ≤ ·) := by
  constructor
  · rintro ⟨ms, e, h⟩
    have e2 : ns = ms := by
      have := congrArg (List.map fun v => match v with | V.int i => i | _ => 0) e
      rw [List.map_map, List.map_map] at this
      have f : ((fun v => match v with | V.int i => i | _ => (0 : Int)) ∘ V.int) = id := rfl
      rw [f, List.map_id, List.map_id] at this
      exact this
    rw [e2]
    exact h
  · exact fun h => ⟨ns, rfl, h⟩
theorem tyList {K : PySem.W.Frag} {H : Hp} {p : Addr} {xs : List V} (h : SqL K H p xs) : TyX K H (.ref p) (.type "list") := by
  rcases h with (h | ⟨o, h⟩) | ⟨o, its, n, hk, hc, _⟩
  · exact .base (.lst h)
  · exact .base (.frz h)
  · exact .kList hk hc
end Sp
namespace Sp
open PySem L2
/-! ### joined, turned, counted -/
theorem sorted_one {ns ms : List Int} (hp : ns.Perm ms) (h1 : ns.Pairwise (· ≤ ·)) (h2 : ms.Pairwise (· ≤ ·)) : ns = ms := hp.eq_of_pairwise (fun a b _ _ x y => Int.le_antisymm x y) h1 h2
def spJoined : L2.Sp := fun vs H Q _ => ∃ (p q : Addr) (ns ms : List Int), vs = [.ref p, .ref q] ∧ H p = some (.lst (ns.map V.int)) ∧ H q = some (.lst (ms.map V.int)) ∧ ns.length + ms.length ≤ 10000 ∧
  ∀ (r : Addr) (js : List Int) (H' : Hp), Same H H' → H r = none → H' r = some (.lst (js.map V.int)) → js.Perm (ns ++ ms) → js.Pairwise (· ≤ ·) → Q (.ref r) H'
def turned (ns : List Int) : List Int := ns.reverse.map fun x => 0 - x
def spTurned (K : PySem.W.Frag) : L2.Sp := fun vs H Q _ => ∃ (p : Addr) (ns : List Int), vs = [.ref p] ∧ SqL K H p (ns.map V.int) ∧ ns.length ≤ 10000 ∧ ∀ (r : Addr) (H' : Hp), Same H H' → H r = none → H' r = some (.lst ((turned ns).map V.int)) → Q (.ref r) H'
theorem cntB_perm {ns ms : List Int} (h : ns.Perm ms) (n : Int) : cntB ns n = cntB ms n := h.countP_eq _
theorem cntB_append (ns ms : List Int) (n : Int) : cntB (ns ++ ms) n = cntB ns n + cntB ms n := List.countP_append
theorem cntB_next : ∀ (ns : List Int) (n : Int), cntB ns (n + 1) = cntB ns n + ns.count n
  | [], n => rfl
  | x :: ns, n => by
    have ih := cntB_next ns n
    unfold cntB at ih ⊢
    rw [List.countP_cons, List.countP_cons, List.count_cons, ih]
    by_cases h : x < n
    · rw [if_pos (decide_eq_true (show x < n + 1 by omega)), if_pos (decide_eq_true h), if_neg (by simp; omega)]
      omega
    · by_cases h2 : x = n
      · rw [if_pos (decide_eq_true (show x < n + 1 by omega)), if_neg (by simpa using h), if_pos (by simp [h2])]
        omega
      · rw [if_neg (by simp; omega), if_neg (by simpa using h), if_neg (by simpa using h2)]
        omega
theorem cntB_turned (ns : List Int) (n : Int) : cntB (turned ns) (0 - n) + cntB ns (n + 1) = ns.length := by
  have key : ∀ l : List Int, cntB (l.map fun x => 0 - x) (0 - n) + cntB l (n + 1) = l.length := by
    intro l
    induction l with
    | nil => rfl
    | cons x l ih =>
      unfold cntB at ih ⊢
      rw [List.map_cons, List.countP_cons, List.countP_cons, List.length_cons]
      by_cases h : x < n + 1
      · rw [if_pos (decide_eq_true h), if_neg (by simp; omega)]
        omega
      · rw [if_pos (decide_eq_true (show 0 - x < 0 - n by omega)), if_neg (by simp; omega)]
        omega
  have h1 := key ns.reverse
  have h2 : cntB ns.reverse (n + 1) = cntB ns (n + 1) := cntB_perm (List.reverse_perm ns) _
  rw [h2, List.length_reverse] at h1
  exact h1
theorem turned_sorted {ns : List Int} (h : ns.Pairwise (· ≤ ·)) : (turned ns).Pairwise (· ≤ ·) := by
  unfold turned
  rw [List.pairwise_map, List.pairwise_reverse]
  exact h.imp fun h => by omega
def spCounts (K : PySem.W.Frag) : L2.Sp := fun vs H Q _ => ∃ (p q b : Addr) (ns ms js : List Int) (n : Int), vs = [.ref p, .ref q, .ref b, .int n] ∧ SqL K H p (ns.map V.int) ∧ SqL K H q (ms.map V.int) ∧ SqL K H b (js.map V.int) ∧
  ns.Pairwise (· ≤ ·) ∧ ms.Pairwise (· ≤ ·) ∧ js.Pairwise (· ≤ ·) ∧ js.Perm (ns ++ ms) ∧ ns.length ≤ 10000 ∧ ∀ H', Same H H' → Q (.bl true) H'
end Sp
namespace Sp
open PySem L2
theorem ne_same {x : V} {H : Hp} {Q : VK} (hs : scal x x = true) (q : Q (.bl false) H) : rNe x x H Q := ⟨hs, by rw [decide_eq_true rfl]; exact q⟩
theorem eq_same {x : V} {H : Hp} {Q : VK} (hs : scal x x = true) (q : Q (.bl true) H) : rEq x x H Q := ⟨hs, by rw [decide_eq_true rfl]; exact q⟩
end Sp
namespace Sp
open PySem L2
theorem map_cnt_sorted {js zs : List Int} (h : zs.Pairwise (· ≤ ·)) : (zs.map fun z => ((cntB js z : Nat) : Int)).Pairwise (· ≤ ·) := by
  rw [List.pairwise_map]
  exact h.imp fun h => Int.ofNat_le.mpr (cntB_mono h)
/-- a turn of [f x for x in ns] -/
theorem map_turn {H0 H : Hp} {D : Addr} {ns : List Int} {f : Int → Int} {i : Nat} {y : Int} (nD : H0 D = none) (w1 : Same H0 H) (w2 : H D = some (.lst (((ns.take i).map f).map V.int))) (hy : ns[i]? = some y) (hl : ns.length ≤ 10000) :
    ∃ acc, H D = some (.lst acc) ∧ acc.length < sizeLine ∧ Same H0 (upd H D (.lst (acc ++ [V.int (f y)]))) ∧ (upd H D (.lst (acc ++ [V.int (f y)]))) D = some (.lst (((ns.take (i + 1)).map f).map V.int)) := by
  refine ⟨_, w2, smallLt ?_, same_app nD w1, ?_⟩
  · have := List.length_take_le' i ns
    rw [List.length_map, List.length_map]
    omega
  · rw [upd_same, take_snoc hy, map_app1, List.map_append, List.map_append, List.map_append]
    rfl
end Sp

namespace Sp
open PySem L2
/-- the scope of a comprehension that the j-th statement of a def stores -/
def compScopeAt (s : Stmt) (j : Nat) : Scope := match (defBody s).getD j (.Pass ⟨0, 0, 0, 0⟩) with
  | .Assign _ (.ListComp _ _ sc _) _ => sc
  | _ => { kind := .function, names := [], isGenerator := false, isCoroutine := false }
/-! ### sums, otherwise -/
theorem cntB_cons (y : Int) (ms : List Int) (n : Int) : cntB (y :: ms) n = cntB ms n + (if y < n then 1 else 0) := by
  unfold cntB
  rw [List.countP_cons]
  by_cases h : y < n
  · rw [if_pos (decide_eq_true h), if_pos h]
  · rw [if_neg (by simpa using h), if_neg h]
theorem cntS_cons (x : Int) (ns ms : List Int) (n : Int) : cntS (x :: ns) ms n = cntB ms (n - x) + cntS ns ms n := by
  unfold cntS
  rw [List.map_cons, List.sum_cons]
theorem cntS_cons_r : ∀ (ns : List Int) (y : Int) (ms : List Int) (n : Int), cntS ns (y :: ms) n = cntB ns (n - y) + cntS ns ms n
  | [], y, ms, n => rfl
  | x :: ns, y, ms, n => by
    rw [cntS_cons, cntS_cons, cntS_cons_r ns y ms n, cntB_cons, cntB_cons]
    have : (y < n - x) ↔ (x < n - y) := by omega
    by_cases h : y < n - x
    · rw [if_pos h, if_pos (this.mp h)]
      omega
    · rw [if_neg h, if_neg (fun k => h (this.mpr k))]
      omega
theorem cntS_nil_r : ∀ (ns : List Int) (n : Int), cntS ns [] n = 0
  | [], n => rfl
  | x :: ns, n => by rw [cntS_cons, cntS_nil_r ns n]; rfl
theorem cntS_comm : ∀ (ns ms : List Int) (n : Int), cntS ms ns n = cntS ns ms n
  | [], ms, n => by rw [cntS_nil_r]; rfl
  | x :: ns, ms, n => by rw [cntS_cons_r, cntS_cons, cntS_comm ns ms n]
theorem cntS_append (ns ks ms : List Int) (n : Int) : cntS (ns ++ ks) ms n = cntS ns ms n + cntS ks ms n := by
  unfold cntS
  rw [List.map_append, List.sum_append]
theorem cntS_perm {ns ks : List Int} (h : ns.Perm ks) (ms : List Int) (n : Int) : cntS ns ms n = cntS ks ms n := (h.map _).sum_nat
theorem cntS_shift : ∀ (ns ms : List Int) (n b : Int), cntS (ns.map fun x => x + b) ms (n + b) = cntS ns ms n
  | [], ms, n, b => rfl
  | x :: ns, ms, n, b => by
    rw [List.map_cons, cntS_cons, cntS_cons, cntS_shift ns ms n b]
    rw [show n + b - (x + b) = n - x from by omega]
theorem cntB_three : ∀ (ms : List Int) (n : Int), cntB (ms.map fun x => x * 3) (n * 3) = cntB ms n
  | [], n => rfl
  | y :: ms, n => by
    rw [List.map_cons, cntB_cons, cntB_cons, cntB_three ms n]
    by_cases h : y < n
    · rw [if_pos h, if_pos (by omega)]
    · rw [if_neg h, if_neg (by omega)]
theorem cntS_three : ∀ (ns ms : List Int) (n : Int), cntS (ns.map fun x => x * 3) (ms.map fun x => x * 3) (n * 3) = cntS ns ms n
  | [], ms, n => rfl
  | x :: ns, ms, n => by
    rw [List.map_cons, cntS_cons, cntS_cons, cntS_three ns ms n]
    rw [show n * 3 - x * 3 = (n - x) * 3 from by omega, cntB_three]
theorem cntS_turned (ns ms : List Int) (n : Int) : cntS (turned ns) (turned ms) (0 - n + 1) + cntS ns ms n = ns.length * ms.length := by
  have key : ∀ l : List Int, cntS (l.map fun x => 0 - x) (turned ms) (0 - n + 1) + cntS l ms n = l.length * ms.length := by
    intro l
    induction l with
    | nil => rw [List.length_nil, Nat.zero_mul]; rfl
    | cons x l ih =>
      rw [List.map_cons, cntS_cons, cntS_cons, List.length_cons, Nat.add_mul, Nat.one_mul]
      have h := cntB_turned ms (n - x - 1)
      rw [show n - x - 1 + 1 = n - x from by omega] at h
      rw [show 0 - n + 1 - (0 - x) = 0 - (n - x - 1) from by omega]
      omega
  have h1 := key ns.reverse
  rw [List.length_reverse, cntS_perm (List.reverse_perm ns)] at h1
  exact h1
theorem cntB_all : ∀ {ms : List Int} {n : Int}, (∀ y ∈ ms, y < n) → cntB ms n = ms.length
  | [], n, _ => rfl
  | y :: ms, n, h => by
    rw [cntB_cons, cntB_all fun z hz => h z (List.mem_cons_of_mem _ hz), if_pos (h y List.mem_cons_self), List.length_cons]
theorem cntS_all : ∀ {ns ms : List Int} {n : Int}, (∀ x ∈ ns, ∀ y ∈ ms, x + y < n) → cntS ns ms n = ns.length * ms.length
  | [], ms, n, _ => by rw [List.length_nil, Nat.zero_mul]; rfl
  | x :: ns, ms, n, h => by
    rw [cntS_cons, cntS_all (fun z hz => h z (List.mem_cons_of_mem _ hz)), cntB_all (fun y hy => (by have := h x List.mem_cons_self y hy; omega)), List.length_cons, Nat.add_mul, Nat.one_mul, Nat.add_comm]
theorem cntS_mono {ns ms : List Int} {n m : Int} (h : n ≤ m) : cntS ns ms n ≤ cntS ns ms m := by
  induction ns with
  | nil => exact Nat.le_refl _
  | cons x ns ih =>
    rw [cntS_cons, cntS_cons]
    exact Nat.add_le_add (cntB_mono (by omega)) ih
theorem cntS_one (b : Int) (ms : List Int) (n : Int) : cntS [b] ms n = cntB ms (n - b) := by rw [cntS_cons]; rfl
theorem map_cntS_sorted {ns ms zs : List Int} (h : zs.Pairwise (· ≤ ·)) : (zs.map fun z => ((cntS ns ms z : Nat) : Int)).Pairwise (· ≤ ·) := by
  rw [List.pairwise_map]
  exact h.imp fun h => Int.ofNat_le.mpr (cntS_mono h)
theorem div_fine {ns : List Int} (h : Fine ns) : Fine (ns.map fun x => x / 4) := by
  refine ⟨?_, fun z hz => ?_⟩
  · rw [List.pairwise_map]
    exact h.1.imp fun h => Int.ediv_le_ediv (by decide) h
  · obtain ⟨x, hx, rfl⟩ := List.mem_map.mp hz
    have := h.2 x hx
    omega
theorem shift_sorted {ns : List Int} (b : Int) (h : ns.Pairwise (· ≤ ·)) : (ns.map fun x => x + b).Pairwise (· ≤ ·) := by
  rw [List.pairwise_map]
  exact h.imp fun h => by omega
theorem three_sorted {ns : List Int} (h : ns.Pairwise (· ≤ ·)) : (ns.map fun x => x * 3).Pairwise (· ≤ ·) := by
  rw [List.pairwise_map]
  exact h.imp fun h => by omega
def spRight7 (K : PySem.W.Frag) : L2.Sp := fun vs H Q _ => ∃ (p q t : Addr) (ns ms ks : List Int) (n b : Int), vs = [.ref p, .ref q, .ref t, .int n, .int b] ∧ H p = some (.lst (ns.map V.int)) ∧ H q = some (.lst (ms.map V.int)) ∧ H t = some (.lst (ks.map V.int)) ∧
  Fine ns ∧ Fine ms ∧ Fine ks ∧ ns.length ≤ 300 ∧ ms.length ≤ 300 ∧ ks.length ≤ 300 ∧ -(2 ^ 160) < n ∧ n < 2 ^ 160 ∧ ∀ H', Same H H' → Q (.bl true) H'
end Sp
namespace Sp
open PySem L2
/-- within a comprehension: the written part by its own name -/
theorem pi_listK {X : Cx} {K : PySem.W.Frag} {tg l : Expr} {tl : TE} (hK : X.K = K) (hl : PE X l tl) : PI X tg l (iList K tl) := hK ▸ pi_list hl
end Sp
namespace Sp
open PySem L2
theorem mid_div {zs : List Int} (h : Mid zs) : Mid (zs.map fun x => x / 4) := fun z hz => by
  obtain ⟨x, hx, rfl⟩ := List.mem_map.mp hz
  have := h x hx
  omega
end Sp

/-! defs that ask repr of a list: they are called where no repr is under way. -/
namespace Gd
open PySem PySem.Spec PyProof.Rows L2 Sp
/-- a def that keeps its promise wherever no repr is under way -/
structure FnG (P : Program) (w : World) (K : PySem.W.Frag) (mg : Str → Option Value) (base : Heap) (k : Nat) (f : Addr) (fd : FuncData) (ps : List Str) (sp : L2.Sp) : Prop where
  many : ∀ vs H Q E, sp vs H Q E → vs.length = ps.length
  goes : ∀ (B : Around) (fs : List Env) (z : Shared) (H : Hp) (ws : Args) (us : List Value) (vs : List V) (Q : VK) (E : XK), B.guards = some [] → Room k B →
    Env0 P w K mg base B fs z H → BindsTo z fd ws (ps.zip us) → Vals vs us → sp vs H Q E → codeAny (model P w) B (.call (.ref f) ws) (CR CX0 fs P w H z Q E) z
/-- such a def of the text by its name -/
structure CalG (P : Program) (w : World) (K : PySem.W.Frag) (mg : Str → Option Value) (base : Heap) (k : Nat) (x : Str) (ps : List Str) (sp : L2.Sp) : Prop where
  ex : ∃ (f : Addr) (fd : FuncData), FnG P w K mg base k f fd ps sp ∧ mg x = some (.ref f) ∧ PySem.W.keepIn K (.ref f) = true ∧ Binds K fd ps []
section
variable {P : Program} {w : World} {K : PySem.W.Frag} {mg : Str → Option Value} {base : Heap}
theorem okG {x qual : Str} {st : Stmt} {f : Addr} {fd : FuncData} {N ps : List Str} {k : Nat} {sp : L2.Sp} (F : Fun K x qual st f fd) (S : FnScope N ps (defScope st)) (many : ∀ vs H Q E, sp vs H Q E → vs.length = ps.length)
    (go : ∀ (c : Value) (B : Around) (fs : List Env) (z : Shared) (H : Hp) (vs : List V) (Q : VK) (E : XK), B.guards = some [] → Room k (B.deeper (envOfC qual (defScope st) z.heap.objs.size f c)) → sp vs H Q E →
      ∃ t, PSs (cxOf CX0 P w K mg base N qual (defScope st) f c B fs z H E).nox (defBody st) t ∧ t { nx := fun _ H2 => Q .non H2, rt := Q } (start N vs) H) : FnG P w K mg base (k + 1) f fd ps sp := by
  obtain ⟨oc, od, kV, doc, pm, an, c, ct, osl, rfl, lk, hc⟩ := F.ex
  refine ⟨many, fun B fs z H ws us vs Q E hg hr e0 hb r hsp => ?_⟩
  have kin : K.In z.heap := e0.mod.kin.keeps fun b o e => (e0.bs b o e).1
  have nl : z.heap.NoLimit := e0.mod.nolimit.keeps fun b o e => (e0.bs b o e).1
  have kinds : ∀ y ∈ ps.zip us, (defScope st).names.lookup y.1 = some .local ∨ ((defScope st).names.lookup y.1 = some .cell ∧ ((cellsFrom (z.heap.objs.size + 1) (defScope st).names []).lookup y.1).isSome = true) := by
    intro y hy
    rcases S.par y.1 (List.of_mem_zip hy).1 with q | q
    · exact .inl q
    · exact .inr ⟨q, PySem.W.cellsFrom_some _ _ _ (.inl q)⟩
  refine codeAny_call_function hr.depth (kin _ _ lk) rfl S.co S.gen rfl (PySem.W.codeRec_of kin hc) (hb _ _ _ _ (wpAny_newFunctionEnv_cells S.kind kinds fun env he z1 y => ?_))
  subst he
  obtain ⟨t, ht, hq⟩ := go c B fs z H vs Q E hg (hr.deeper _) hsp
  have I := inv_start (E := E) (CX := CX0) S hr.hd e0 (many _ _ _ _ hsp) r y
  refine ⟨nl.keeps y.toInCall.keep, codeAny_func (wpAny_mono (ht.nox.run [] z1 (start N vs) H _ I hq) (fun fl z2 hz => ?_) fun _ _ hz => hz)⟩
  cases fl with
  | next =>
    obtain ⟨σ2, H2, J, q⟩ := hz
    exact ⟨.non, H2, J.os, J.bare, J.base, J.hok, rfl, q⟩
  | ret u =>
    obtain ⟨v, σ2, H2, J, rv, q⟩ := hz
    exact ⟨v, H2, J.os, J.bare, J.base, J.hok, rv, q⟩
  | brk => exact hz.choose_spec.choose_spec.2.elim
  | cont => exact hz.choose_spec.choose_spec.2.elim
end
section
variable {X : Cx} {k : Nat} {x : Str} {ps : List Str} {sp : L2.Sp} {e : Expr} {es : List Expr} {t : TA} {p pos : Pos}
theorem pe_ownG (c : CalG X.prog X.w X.K X.mg X.base k x ps sp) (hu : X.A.guards = some []) (hr : Room k X.A) (hg : Gl X x) (ha : PA X (e :: es) t) (hdb : (x == ("__debug__" : Str)) = false := by decide)
    (he : starEach (e :: es) X.env = (false, eval e X.env) :: starEach es X.env := by rfl) (hpl : (backTo pos (starEach es X.env)).any (·.1) = false := by rfl) : PE X (.Call (.Name x p) (e :: es) [] pos) (tCall sp [] E0 t) := by
  obtain ⟨f, fd, F, m, kp, b⟩ := c.ex
  refine ⟨fun pins z σ H Q I h => ?_⟩
  refine wpAny_Call_Name_kw (ld_glob I hg m (PySem.W.callWith_K (h₀ := X.base) I.ok.mod.kin kp (thn (ha.run pos pins z σ H _ I h) fun us z1 ⟨vs, H1, J, r, q⟩ => ⟨J.kIn, ?_⟩) he hpl) hdb)
  have q0 : sp vs H1 Q E0 := by
    have q1 : sp (vs ++ []) H1 Q E0 := q
    rwa [List.append_nil] at q1
  have eq : us ++ [] = us := List.append_nil us
  have hb := b z1 us J.kIn (by rw [eq, ← r.length]; exact F.many _ _ _ _ q0)
  rw [eq] at hb
  refine wpAny_call (codeAny_mono (F.goes X.A X.stack z1 H1 ⟨us, []⟩ us vs Q E0 hu hr J.env0 hb r q0) fun res z2 hz => ?_)
  cases res with
  | error ex => exact pass0 pins σ H1 z1 ex z2 J hz
  | ok fl =>
    cases fl with
    | ret u => exact J.after hz
    | next => exact hz.elim
    | brk => exact hz.elim
    | cont => exact hz.elim
/-- repr of a list or a tuple of data -/
def rRepr (K : PySem.W.Frag) : List V → Hp → VK → Prop := fun xs H Q => ∃ (a : Addr) (d : PyData), xs = [.ref a] ∧ Dp K H (.ref a) d ∧ d.showable = true ∧ d.hasDict = false ∧ d.shown.length ≤ sizeLine ∧ d.depth ≤ 60 ∧ Q (.str d.shown) H
theorem call_repr (hu : X.A.guards = some []) (hr : Room k X.A) : CallR X (.builtin "repr") (rRepr X.K) := by
  intro pins z σ H xs us Q I r h
  obtain ⟨a, d, rfl, hd, h1, h2, h3, h4, q⟩ := h
  cases r with
  | cons ra rr =>
    cases rr
    obtain ⟨as, R⟩ := Dp.reads I d _ _ hd ra
    cases ra
    have := hr.units
    exact repr_of_reads' R h1 (PyData.noDict_hsm h2) hu (by omega) (fun _ _ e => e) (fun h' u tk hk => ⟨.str d.shown, H, I.kept (t' := tk) hk, ⟨u, rfl⟩, q⟩) h3
end
theorem show_ints : ∀ ns : List Int, (∀ n ∈ ns, n.natAbs.log2 < 60) → PyData.showableAll (ns.map PyData.int) = true ∧ PyData.leavesShortAll 61 (ns.map PyData.int) = true ∧ PyData.weightAll (ns.map PyData.int) ≤ 61 * ns.length
  | [], _ => ⟨rfl, rfl, Nat.zero_le _⟩
  | n :: ns, h => by
    obtain ⟨h1, h2, h3⟩ := show_ints ns fun m hm => h m (List.mem_cons_of_mem _ hm)
    have h0 := h n List.mem_cons_self
    refine ⟨?_, ?_, ?_⟩
    · rw [List.map_cons, PyData.showableAll, h1, PyData.showable, decide_eq_true (by omega)]
      rfl
    · rw [List.map_cons, PyData.leavesShortAll, h2, PyData.leavesShort]
      have e : (PyData.shown (.int n)).length ≤ 61 := by
        show (Str.ofString (toString n)).length ≤ 61
        rw [PySem.ofString_length]
        exact int_text_length_le (k := 60) (by decide) h0
      rw [decide_eq_true e]
      rfl
    · rw [List.map_cons, PyData.weightAll, PyData.weight, List.length_cons]
      split <;> omega
theorem log_small {n : Int} (h1 : -1000000000000000 ≤ n) (h2 : n ≤ 1000000000000000) : n.natAbs.log2 < 60 := by
  by_cases h0 : n.natAbs = 0
  · rw [h0]; decide
  · exact (Nat.log2_lt h0).mpr (by omega)
theorem shown_ints {ns : List Int} (hl : ns.length ≤ 1000) (h : ∀ n ∈ ns, n.natAbs.log2 < 60) : (di ns).showable = true ∧ (di ns).hasDict = false ∧ (di ns).shown.length ≤ sizeLine ∧ (di ns).depth ≤ 60 := by
  obtain ⟨h1, h2, h3⟩ := show_ints ns h
  refine ⟨?_, ?_, ?_, ?_⟩
  · rw [PyData.showable]; exact h1
  · exact PyData.hasDict_of_canLay _ (by rw [PyData.canLay0]; exact lay_ints ns)
  · have := PyData.shown_le 61 (by decide) (di ns) (by rw [PyData.leavesShort]; exact h2)
    rw [PyData.weight] at this
    have e : sizeLine = 16777216 := by decide
    omega
  · rw [PyData.depth, dep_ints]; decide
theorem repr_ints {K : PySem.W.Frag} {p : Addr} {ns : List Int} {H : Hp} {Q : VK} (h : SqL K H p (ns.map V.int)) (hl : ns.length ≤ 1000) (hb : ∀ n ∈ ns, n.natAbs.log2 < 60) (q : Q (.str (di ns).shown) H) : rRepr K [.ref p] H Q := by
  obtain ⟨h1, h2, h3, h4⟩ := shown_ints hl hb
  exact ⟨p, di ns, rfl, dp_ints h, h1, h2, h3, h4, q⟩
section
variable {P : Program} {w : World} {K : PySem.W.Frag} {mg mb : Str → Option Value} {k : Nat} {fa a : Addr} {fd : FuncData} {x : Str} {sp : L2.Sp} {z : Shared} {us : List Value} {ns : List Int}
/-- the outcome that a law wants of its call -/
def Held (z : Shared) : Result → Shared → Prop := fun r z2 => r = .ok (.ret (.bool true)) ∧ OldK z.heap z2.heap ∧ z2.os = z.os ∧ AllBare z2.gens
/-- from the heap in which u alone is tracked, at the script's place (or nothing) -/
theorem held_of {u : Option HO} (hu : ∀ v, u = some v → K.lookup a = none ∧ v = .frz { cls := .type "list", data := .seq us.toArray } (.lst (ns.map V.int)))
    (kin : K.In z.heap) (g : z.heap.Ns mainGlobals mg) (bn : z.heap.Ns builtinsNs mb) (bt : ∀ x : Str, x ≠ "__name__" → mb x = bootBuiltins x) (nl : z.heap.NoLimit) (gs : z.gens = #[])
    (at_ : z.heap.get? a = some { cls := .type "list", data := .seq us.toArray }) (rv : Vals (ns.map V.int) us) (len : ns.length ≤ sizeLine) (hr : Room k callerA)
    (F : ∀ base : Heap, K.In base → base.Ns mainGlobals mg → FnG P w K mg base k fa fd [x] sp) (bd : ∀ (s : Shared) (v : Value), BindsTo s fd ⟨[v], []⟩ [(x, v)])
    (hs : SqL K (fun b => if b = a then u else none) a (ns.map V.int)) (want : ∀ H : Hp, SqL K H a (ns.map V.int) → sp [.ref a] H (fun v _ => v = .bl true) fun _ _ _ => False) :
    codeAny (model P w) callerA (.call (.ref fa) ⟨[.ref a], []⟩) (Held z) z := by
  generalize hT : (fun b => if b = a then u else none : Hp) = T at hs
  have only : ∀ {b : Addr} {v : HO}, T b = some v → b = a ∧ u = some v := fun {b v} e => by
    rw [← hT] at e
    by_cases n : b = a
    · exact ⟨n, (if_pos n).symm.trans e⟩
    · exact absurd ((if_neg n).symm.trans e) (fun z => nomatch z)
  have off : ∀ {b : Addr} {o : Obj}, z.heap.get? b = some o → (∀ es, o.data ≠ .seq us.toArray es) → T b = none := fun {b o} e d => by
    cases q : T b with
    | none => rfl
    | some v =>
      obtain ⟨rfl, _⟩ := only q
      rw [at_] at e
      exact absurd (congrArg Obj.data (Option.some.inj e)).symm (d _)
  have names : ∀ {b : Addr} {m : Str → Option Value}, z.heap.Ns b m → (hidT z.heap T).Ns b m := fun {b m} n => by
    obtain ⟨o, es, ep, e, d, r⟩ := n
    exact ⟨o, es, ep, hidT_get e (off e fun es' q => by rw [d] at q; cases q), d, r⟩
  have kin2 : K.In (hidT z.heap T) := fun b o e => hidT_get (kin b o e) (by
    cases q : T b with
    | none => rfl
    | some v =>
      obtain ⟨rfl, q2⟩ := only q
      rw [(hu v q2).1] at e
      cases e)
  have ok : HOk P w T z.heap := fun b v e => by
    obtain ⟨rfl, q2⟩ := only e
    obtain ⟨_, rfl⟩ := hu v q2
    exact ⟨at_, by rw [List.length_map]; exact len, us, _, rv, at_⟩
  obtain ⟨mc, c1, c2⟩ := nl
  have e0 : Env0 P w K mg (hidT z.heap T) callerA [] z T := ⟨rfl, ⟨kin2, names g, ⟨mb, names bn, bt⟩, ⟨mc, names c1, c2⟩⟩, fun b o e => of_hidT e, Nat.le_of_eq (hidT_size _ _), trivial, (fun b hb => nomatch hb), ok, .of_eq gs⟩
  refine codeAny_mono ((F _ kin2 (names g)).goes callerA [] z T ⟨[.ref a], []⟩ [.ref a] [.ref a] _ _ rfl hr e0 (bd z (.ref a)) (.cons rfl .nil) (want T hs)) fun res z2 hz => ?_
  match res, hz with
  | .error e, hz => exact hz.elim
  | .ok .next, hz => exact hz.elim
  | .ok .brk, hz => exact hz.elim
  | .ok .cont, hz => exact hz.elim
  | .ok (.ret v), hz =>
    obtain ⟨y, T2, os, bare, un, ok2, ry, q⟩ := hz
    have q' : y = .bl true := q
    subst q'
    obtain rfl : v = Value.bool true := ry
    refine ⟨rfl, OldK.of_keep fun b o e => ?_, os, bare⟩
    cases q2 : T b with
    | none => exact un.keep b o e q2 (fun y => nomatch y) (fun y => nomatch y)
    | some v2 =>
      obtain ⟨rfl, q3⟩ := only q2
      obtain ⟨_, rfl⟩ := hu v2 q3
      rw [at_] at e
      cases e
      exact (ok2 b _ (un.frzs b _ _ q2)).1
end
/-- the head of a law whose def asks repr -/
theorem walkG {l : PySem.W.OpenLaw} {n k : Nat} {q : Program} {loose : List Str} {XP : (Str → Option Value) → Heap → Prop} {YP : World → Heap → Prop} {d : DefRec} {K : Params → PySem.W.Frag} {sp : PySem.W.Frag → L2.Sp} {x : Str} (most : l.most = some n) (le : n ≤ sizeLine)
    (nod : d.params.defaults = []) (hr : Room k callerA) (part : ∀ (w : World) (h : Heap), YP w h → (K w.params).In h)
    (F : ∀ (w : World) (mg : Str → Option Value) (fa : Addr) (h : Heap), (K w.params).In h → h.Ns mainGlobals mg → mg d.name = some (.ref fa) →
      ∃ fd : FuncData, (∀ (s : Shared) (v : Value), BindsTo s fd ⟨[v], []⟩ [(x, v)]) ∧ ∀ base : Heap, (K w.params).In base → base.Ns mainGlobals mg → FnG l.prog w (K w.params) mg base k fa fd [x] (sp (K w.params)))
    (want : ∀ (K : PySem.W.Frag) (H : Hp) (a : Addr) (ns : List Int), ns.length ≤ n → SqL K H a (ns.map V.int) → sp K [.ref a] H (fun v _ => v = .bl true) fun _ _ _ => False) :
    PySem.W.WalkO q loose XP YP l.row.toRowW d [] (fun f vs => PySem.call f vs) := by
  refine Att.attach_call most nod fun w s0 z mg mb fa o pm cd doc a us ns G Y ho hd hcd hmg at_ hi hl gs => ?_
  have kin := part w _ Y
  obtain ⟨fd, bd, FF⟩ := F w mg fa _ kin G.T.g hmg
  have rv := vals_ints hi
  have len : ns.length ≤ sizeLine := Nat.le_trans hl le
  cases hk : (K w.params).lookup a with
  | some o2 =>
    have e := kin a o2 hk
    rw [at_] at e
    cases e
    refine held_of (u := none) (fun _ e => nomatch e) kin G.T.g G.T.b G.T.builtins G.T.nolimit gs at_ rv len hr FF bd (.inr ⟨_, us.toArray, _, hk, rfl, rfl, rfl, ?_, by simpa using rv⟩) fun H h => want _ H a ns hl h
    rw [List.size_toArray, hi.length]
    exact len
  | none =>
    exact held_of (u := some (.frz { cls := .type "list", data := .seq us.toArray } (.lst (ns.map V.int)))) (fun v e => ⟨hk, (Option.some.inj e).symm⟩) kin G.T.g G.T.b G.T.builtins G.T.nolimit gs at_ rv len hr FF bd (.inl (.inr ⟨_, if_pos rfl⟩)) fun H h => want _ H a ns hl h
end Gd
namespace Sp
open PySem L2
/-! ### rows joined -/
def spDue2 (K : PySem.W.Frag) : L2.Sp := fun vs H Q _ => ∃ (p q : Addr) (ns ms : List Int), vs = [.ref p, .ref q] ∧ SqL K H p (ns.map V.int) ∧ SqL K H q (ms.map V.int) ∧ ns.length ≤ 1000 ∧ ms.length ≤ 1000 ∧ ns.Pairwise (· ≤ ·) ∧ ms.Pairwise (· ≤ ·) ∧
  ∀ (r : Addr) (js : List Int) (H' : Hp), Same H H' → H r = none → H' r = some (.lst (js.map V.int)) → js.Perm (ns ++ ms) → js.Pairwise (· ≤ ·) → Q (.ref r) H'
def spSame2 (K : PySem.W.Frag) : L2.Sp := fun vs H Q _ => ∃ (p q : Addr) (ns : List Int), vs = [.ref p, .ref q] ∧ SqL K H p (ns.map V.int) ∧ SqL K H q (ns.map V.int) ∧ ns.length ≤ 1000 ∧ (∀ n ∈ ns, n.natAbs.log2 < 60) ∧ Q (.bl true) H
/-- two lists that are emptied from behind into a third -/
structure Left (H0 H : Hp) (p q l f : Addr) (as bs fs : List Int) : Prop where
  same : Same H0 H
  hp : H p = some (.lst (as.map V.int))
  hq : H q = some (.lst (bs.map V.int))
  hl : H l = some (.lst [.ref p, .ref q])
  hf : H f = some (.lst (fs.map V.int))
structure Off4 (H0 : Hp) (p q l f : Addr) : Prop where
  np : H0 p = none
  nq : H0 q = none
  nf : H0 f = none
  pq : p ≠ q
  pl : p ≠ l
  pf : p ≠ f
  ql : q ≠ l
  qf : q ≠ f
  lf : l ≠ f
theorem Left.up {H0 H H' : Hp} {p q l f : Addr} {as bs fs : List Int} (a : Left H0 H p q l f as bs fs) (s : Same H H') : Left H0 H' p q l f as bs fs := ⟨a.same.trans s, s _ _ a.hp, s _ _ a.hq, s _ _ a.hl, s _ _ a.hf⟩
theorem same_set {H0 H : Hp} {p : Addr} {o : HO} (n : H0 p = none) (s : Same H0 H) : Same H0 (upd H p o) := fun c x e => by
  rw [upd_ne (ne_of_none e n)]
  exact s c x e
theorem Left.popP {H0 H : Hp} {p q l f : Addr} {as bs fs : List Int} (a : Left H0 H p q l f as bs fs) (d : Off4 H0 p q l f) : Left H0 (upd H p (.lst (as.map V.int).dropLast)) p q l f as.dropLast bs fs :=
  ⟨same_set d.np a.same, by rw [upd_same, List.map_dropLast], by rw [upd_ne d.pq.symm]; exact a.hq, by rw [upd_ne d.pl.symm]; exact a.hl, by rw [upd_ne d.pf.symm]; exact a.hf⟩
theorem Left.popQ {H0 H : Hp} {p q l f : Addr} {as bs fs : List Int} (a : Left H0 H p q l f as bs fs) (d : Off4 H0 p q l f) : Left H0 (upd H q (.lst (bs.map V.int).dropLast)) p q l f as bs.dropLast fs :=
  ⟨same_set d.nq a.same, by rw [upd_ne d.pq]; exact a.hp, by rw [upd_same, List.map_dropLast], by rw [upd_ne d.ql.symm]; exact a.hl, by rw [upd_ne d.qf.symm]; exact a.hf⟩
theorem Left.put {H0 H : Hp} {p q l f : Addr} {as bs fs : List Int} (a : Left H0 H p q l f as bs fs) (d : Off4 H0 p q l f) (y : Int) : Left H0 (upd H f (.lst (fs.map V.int ++ [V.int y]))) p q l f as bs (fs ++ [y]) :=
  ⟨same_set d.nf a.same, by rw [upd_ne d.pf]; exact a.hp, by rw [upd_ne d.qf]; exact a.hq, by rw [upd_ne d.lf]; exact a.hl, by rw [upd_same, map_app1]⟩
/-- what is emptied so far: sorted from behind, none of it lesser than what is left -/
structure Merge (ns ms as bs fs : List Int) : Prop where
  pm : (as ++ bs ++ fs).Perm (ns ++ ms)
  sa : as.Pairwise (· ≤ ·)
  sb : bs.Pairwise (· ≤ ·)
  sf : fs.Pairwise (fun x y => y ≤ x)
  la : ∀ x ∈ as, ∀ y ∈ fs, x ≤ y
  lb : ∀ x ∈ bs, ∀ y ∈ fs, x ≤ y
theorem snoc_of {as : List Int} {y : Int} (h : as[as.length - 1]? = some y) : as = as.dropLast ++ [y] := by
  have hl := (List.getElem?_eq_some_iff.mp h).1
  have hn : as ≠ [] := by intro z; rw [z] at hl; simp at hl
  have e := (List.getElem?_eq_some_iff.mp h).2
  rw [← List.getLast_eq_getElem hn] at e
  rw [← e]
  exact (List.dropLast_concat_getLast hn).symm
theorem below_last {as : List Int} {y : Int} (s : as.Pairwise (· ≤ ·)) (h : as[as.length - 1]? = some y) : ∀ x ∈ as, x ≤ y := by
  rw [snoc_of h] at s ⊢
  intro x hx
  rcases List.mem_append.mp hx with z | z
  · exact (List.pairwise_append.mp s).2.2 x z y (List.mem_singleton.mpr rfl)
  · rw [List.mem_singleton.mp z]
    exact Int.le_refl _
theorem Merge.popA {ns ms as bs fs : List Int} {y : Int} (m : Merge ns ms as bs fs) (h : as[as.length - 1]? = some y) (hb : ∀ x ∈ bs, x ≤ y) : Merge ns ms as.dropLast bs (fs ++ [y]) := by
  have e := snoc_of h
  have ya : y ∈ as := by rw [e]; simp
  have sub : ∀ x ∈ as.dropLast, x ∈ as := fun x hx => List.dropLast_subset as hx
  refine ⟨?_, m.sa.sublist (List.dropLast_sublist as), m.sb, List.pairwise_append.mpr ⟨m.sf, List.pairwise_singleton _ _, fun z hz w hw => ?_⟩, fun x hx z hz => ?_, fun x hx z hz => ?_⟩
  · refine List.Perm.trans ?_ m.pm
    refine (List.perm_iff_count).mpr fun z => ?_
    have c : List.count z as = List.count z as.dropLast + List.count z [y] := by rw [← List.count_append, ← e]
    simp only [List.count_append]
    omega
  · rw [List.mem_singleton.mp hw]; exact m.la y ya z hz
  · rcases List.mem_append.mp hz with k | k
    · exact m.la x (sub x hx) z k
    · rw [List.mem_singleton.mp k]; exact below_last m.sa h x (sub x hx)
  · rcases List.mem_append.mp hz with k | k
    · exact m.lb x hx z k
    · rw [List.mem_singleton.mp k]; exact hb x hx
theorem Merge.popB {ns ms as bs fs : List Int} {y : Int} (m : Merge ns ms as bs fs) (h : bs[bs.length - 1]? = some y) (ha : ∀ x ∈ as, x ≤ y) : Merge ns ms as bs.dropLast (fs ++ [y]) := by
  have e := snoc_of h
  have yb : y ∈ bs := by rw [e]; simp
  have sub : ∀ x ∈ bs.dropLast, x ∈ bs := fun x hx => List.dropLast_subset bs hx
  refine ⟨?_, m.sa, m.sb.sublist (List.dropLast_sublist bs), List.pairwise_append.mpr ⟨m.sf, List.pairwise_singleton _ _, fun z hz w hw => ?_⟩, fun x hx z hz => ?_, fun x hx z hz => ?_⟩
  · refine List.Perm.trans ?_ m.pm
    refine (List.perm_iff_count).mpr fun z => ?_
    have c : List.count z bs = List.count z bs.dropLast + List.count z [y] := by rw [← List.count_append, ← e]
    simp only [List.count_append]
    omega
  · rw [List.mem_singleton.mp hw]; exact m.lb y yb z hz
  · rcases List.mem_append.mp hz with k | k
    · exact m.la x hx z k
    · rw [List.mem_singleton.mp k]; exact ha x hx
  · rcases List.mem_append.mp hz with k | k
    · exact m.lb x (sub x hx) z k
    · rw [List.mem_singleton.mp k]; exact below_last m.sb h x (sub x hx)
theorem Merge.begin {ns ms : List Int} (h1 : ns.Pairwise (· ≤ ·)) (h2 : ms.Pairwise (· ≤ ·)) : Merge ns ms ns ms [] := ⟨by rw [List.append_nil], h1, h2, List.Pairwise.nil, (fun _ _ _ h => nomatch h), (fun _ _ _ h => nomatch h)⟩
theorem Merge.ends {ns ms fs : List Int} (m : Merge ns ms [] [] fs) : fs.reverse.Perm (ns ++ ms) ∧ fs.reverse.Pairwise (· ≤ ·) := ⟨(List.reverse_perm fs).trans m.pm, List.pairwise_reverse.mpr m.sf⟩
theorem last_at {as : List Int} (h : as ≠ []) : ∃ y, as[as.length - 1]? = some y := ⟨_, List.getElem?_eq_getElem (by have := List.length_pos_iff.mpr h; omega)⟩
theorem at_last {as : List Int} {y : Int} (h : as[as.length - 1]? = some y) : atI (as.map V.int) (-1) = some (.int y) := by
  have hl := (List.getElem?_eq_some_iff.mp h).1
  unfold atI
  rw [List.length_map]
  have e : ixN as.length (-1) = some (as.length - 1) := by
    unfold ixN
    rw [if_neg (by omega), if_pos (by omega)]
    congr 1
    omega
  rw [e]
  show (as.map V.int)[as.length - 1]? = _
  rw [List.getElem?_map, h]
  rfl
theorem map_last {as : List Int} {y : Int} (h : as[as.length - 1]? = some y) : (as.map V.int)[(as.map V.int).length - 1]? = some (.int y) := by
  rw [List.length_map, List.getElem?_map, h]
  rfl
/-- two rows in a pair, both new -/
def spTwo2 : L2.Sp := fun vs H Q _ => ∃ (a : Addr) (b : Bool), vs = [.ref a, .bl b] ∧ HandAt H a ∧
  ∀ (t p q : Addr) (ns ms : List Int) (H' : Hp), Ext a H H' → H' t = some (.tup [.ref p, .ref q]) → t ≠ a → RowAt H' a p ns → RowAt H' a q ms → H p = none → H q = none → Q (.ref t) H'
/-- all stays but what stands at l -/
def Kp (l : Addr) (H H' : Hp) : Prop := ∀ b o, H b = some o → b ≠ l → H' b = some o
theorem Kp.refl {l : Addr} {H : Hp} : Kp l H H := fun _ _ h _ => h
theorem Kp.trans {l : Addr} {H H1 H2 : Hp} (a : Kp l H H1) (b : Kp l H1 H2) : Kp l H H2 := fun c o h n => b c o (a c o h n) n
theorem Kp.same {l : Addr} {H H' : Hp} (s : Same H H') : Kp l H H' := fun c o h _ => s c o h
theorem Kp.set {l : Addr} {H : Hp} {o : HO} : Kp l H (upd H l o) := fun c x h n => by rw [upd_ne n]; exact h
theorem Kp.made {l : Addr} {H H1 H2 : Hp} (s : Same H H1) (k : Kp l H1 H2) (n : H l = none) : Same H H2 := fun c o h => k c o (s c o h) (ne_of_none h n)
/-- both lists of a pair of lists are alike -/
def Ent (H : Hp) (l e : Addr) : Prop := ∃ (u v : Addr) (js : List Int), e ≠ l ∧ u ≠ l ∧ v ≠ l ∧ H e = some (.lst [.ref u, .ref v]) ∧ H u = some (.lst (js.map V.int)) ∧ H v = some (.lst (js.map V.int)) ∧ js.length ≤ 1000 ∧ ∀ n ∈ js, n.natAbs.log2 < 60
theorem Ent.up {H H' : Hp} {l e : Addr} (k : Kp l H H') (x : Ent H l e) : Ent H' l e := by
  obtain ⟨u, v, js, n1, n2, n3, e1, e2, e3, r⟩ := x
  exact ⟨u, v, js, n1, n2, n3, k _ _ e1 n1, k _ _ e2 n2, k _ _ e3 n3, r⟩
/-- within a comprehension: the written part by its own name -/
theorem ix_listK {X : Cx} {K : PySem.W.Frag} (hK : X.K = K) : IxR X (rIxL K) := hK ▸ ix_list
end Sp

/-! sorted(xs), xs a list of triples of whole numbers of any size. -/
namespace Tri
open PySem PySem.Spec PyProof.Rows SrtO
abbrev T3 := Int × Int × Int
/-- one triple ahead of another: by the first number, then the second, then the third -/
def before (a b : T3) : Prop := a.1 < b.1 ∨ (a.1 = b.1 ∧ (a.2.1 < b.2.1 ∨ (a.2.1 = b.2.1 ∧ a.2.2 < b.2.2)))
instance (a b : T3) : Decidable (before a b) := by unfold before; infer_instance
def bef (a b : T3) : Bool := decide (before a b)
theorem bef_yes {a b : T3} : bef a b = true ↔ before a b := decide_eq_true_iff
theorem bef_no {a b : T3} : bef a b = false ↔ ¬ before a b := decide_eq_false_iff_not
theorem swo3 {α : Type} (k : α → T3) : Swo fun v u => bef (k v) (k u) := by
  refine ⟨fun x y h => ?_, fun x y z h1 h2 => ?_⟩
  · have a := bef_yes.mp h
    refine bef_no.mpr ?_
    unfold before at *
    omega
  · have a := bef_no.mp h1
    have b := bef_no.mp h2
    refine bef_no.mpr ?_
    unfold before at *
    omega
/-- a tuple of three whole numbers -/
def Is3 (h : Heap) (v : Value) (x : T3) : Prop := ∃ (a : Addr) (o : Obj) (t u z : Tok) (n : Nat), v = .ref a ∧ h.get? a = some o ∧ o.cls = .type "tuple" ∧ o.data = .seq #[.int x.1 t, .int x.2.1 u, .int x.2.2 z] n
theorem Is3.stay {h h' : Heap} {v : Value} {x : T3} (i : Is3 h v x) (k : ∀ b o, h.get? b = some o → o.cls = .type "tuple" → h'.get? b = some o) : Is3 h' v x := by
  obtain ⟨a, o, t, u, z, n, e, ho, hc, hd⟩ := i
  exact ⟨a, o, t, u, z, n, e, k a o ho hc, hc, hd⟩
theorem heads {h : Heap} {k : Value → T3} : ∀ {vs : List Value}, (∀ v ∈ vs, Is3 h v (k v)) → ∃ fs : List Value, PySem.W.KatTups h vs fs ∧ fs.length = vs.length ∧ ∀ f ∈ fs, ∃ x t, f = Value.int x t
  | [], _ => ⟨[], PySem.W.KatTups.nil, rfl, fun _ z => nomatch z⟩
  | v :: vs, g => by
    obtain ⟨fs, h1, h2, h3⟩ := heads (vs := vs) fun u hu => g u (List.mem_cons_of_mem _ hu)
    obtain ⟨a, o, t, u, z, n, e, ho, hc, hd⟩ := g v List.mem_cons_self
    generalize (k v).1 = x at hd
    subst e
    refine ⟨.int x t :: fs, PySem.W.KatTups.cons ho hc hd rfl h1, by rw [List.length_cons, List.length_cons, h2], fun f hf => ?_⟩
    rcases List.mem_cons.mp hf with q | q
    · exact ⟨x, t, q⟩
    · exact h3 f q
section
variable {prog : Program} {w : World} {A : Around} {E : Value → Shared → Prop} {s : Shared}
theorem cmp3 {vs : List Value} {k : Value → T3} (g : ∀ v ∈ vs, Is3 s.heap v (k v)) : Cmp prog w A s (tuples' true) (fun p => p.1 ∈ vs) (lt2 fun v u => bef (k v) (k u)) := by
  intro p q hp hq
  have g1 := g _ hp
  have g2 := g _ hq
  show wpAny (model prog w) A (keyLt' (tuples' true) p.1 q.1) (fun r s' => s' = s ∧ r = bef (k p.1) (k q.1)) (fun _ _ => False) s
  generalize k p.1 = x at g1 ⊢
  generalize k q.1 = y at g2 ⊢
  obtain ⟨x1, x2, x3⟩ := x
  obtain ⟨y1, y2, y3⟩ := y
  obtain ⟨a, o, t, u, z, n, e, ho, hc, hd⟩ := g1
  obtain ⟨a', o', t', u', z', n', e', ho', hc', hd'⟩ := g2
  rw [e, e']
  dsimp only at hd hd'
  have yes : ∀ {b : Bool}, (b = true ↔ before (x1, x2, x3) (y1, y2, y3)) → (s = s ∧ b = bef (x1, x2, x3) (y1, y2, y3)) := fun {b} i => ⟨rfl, by
    cases b with
    | true => exact (bef_yes.mpr (i.mp rfl)).symm
    | false => exact (bef_no.mpr fun q => (by cases i.mpr q)).symm⟩
  refine PySem.W.kat_lt ho hd ho' hd' ?_
  show PySem.W.KatLex prog w A true (decide (3 < 3)) _ [(.int x1 t, .int y1 t'), (.int x2 u, .int y2 u'), (.int x3 z, .int y3 z')] 0 s
  refine PySem.W.kat_cons (SeqAt.EqAt.int_int x1 t y1 t' prog w _ _ (PySem.W.kat_go (fun e1 => ?_) (fun e1 => ?_)))
  · have i1 : x1 = y1 := by simpa using e1
    refine PySem.W.kat_yes (PySem.W.kat_cons (SeqAt.EqAt.int_int x2 u y2 u' prog w _ _ (PySem.W.kat_go (fun e2 => ?_) (fun e2 => ?_))))
    · have i2 : x2 = y2 := by simpa using e2
      refine PySem.W.kat_yes (PySem.W.kat_cons (SeqAt.EqAt.int_int x3 z y3 z' prog w _ _ (PySem.W.kat_go (fun e3 => ?_) (fun e3 => ?_))))
      · have i3 : x3 = y3 := by simpa using e3
        refine PySem.W.kat_yes (PySem.W.kat_nil (yes ?_))
        rw [decide_eq_true_iff]
        show 3 < 3 ↔ _
        unfold before
        dsimp only
        omega
      · have i3 : ¬ x3 = y3 := by simpa using e3
        refine PySem.W.kat_no (PySem.W.kat_one _ _ (PyProof.Rows.lt_int (yes ?_)))
        rw [decide_eq_true_iff]
        unfold before
        dsimp only
        omega
    · have i2 : ¬ x2 = y2 := by simpa using e2
      refine PySem.W.kat_no (PySem.W.kat_one _ _ (PyProof.Rows.lt_int (yes ?_)))
      rw [decide_eq_true_iff]
      unfold before
      dsimp only
      omega
  · have i1 : ¬ x1 = y1 := by simpa using e1
    refine PySem.W.kat_no (oneLt_int (yes ?_))
    rw [decide_eq_true_iff]
    unfold before
    dsimp only
    omega
theorem sortable3 {a : Addr} {vs : List Value} {k : Value → T3} (pos : 0 < vs.length) (g : ∀ v ∈ vs, Is3 s.heap v (k v)) (na : ∀ o, s.heap.get? a = some o → o.cls ≠ .type "tuple") : SortableO prog w A s a vs fun v u => bef (k v) (k u) := by
  intro h' keep
  have g' : ∀ v ∈ vs, Is3 h' v (k v) := fun v hv => (g v hv).stay fun b o e c => keep b o (fun z => na o (z ▸ e) c) e
  obtain ⟨fs, h1, h2, h3⟩ := heads g'
  refine ⟨tuples' true, fun Q E hq => ?_, cmp3 g'⟩
  refine PySem.W.kat_kind (T := .type "int") h1 (by omega) (fun f hf => ?_) (by rfl) ?_
  · obtain ⟨x, t, rfl⟩ := h3 f hf
    exact PySem.W.Looks.now
  · have e : (Value.type "int" != Value.type "tuple") = true := by first | decide +kernel | rfl | decide
    rw [e]
    exact hq
theorem sorted3 {l : Addr} {vs : List Value} {k : Value → T3} {Q : Value → Shared → Prop} (hl : s.heap.IsList l vs.toArray) (hz : vs.length ≤ sizeLine) (g : ∀ v ∈ vs, Is3 s.heap v (k v))
    (h : ∀ (h' : Heap) (d : Addr) (out : List Value), Srtd (fun v u => bef (k v) (k u)) out → Stb (fun v u => bef (k v) (k u)) out vs → (∀ b o, s.heap.get? b = some o → h'.get? b = some o) → s.heap.objs.size ≤ d → (∃ n, h'.get? d = some (seqObj "list" out.toArray n)) → Q (.ref d) { s with heap := h' }) :
    wpAny (model prog w) A (call (.builtin "sorted") [.ref l]) Q E s := by
  refine sorted_ord (swo3 k) hl hz (fun h2 h₁ a ha kk => ?_) fun out hs hb => h _ _ out hs hb (fun b o e => sortedAll_old e) (Nat.le_succ _) (sortedAll_at s.heap vs out.toArray)
  refine sortable3 (s := { s with heap := h₁ }) (by omega) (fun v hv => (g v hv).stay fun b o e _ => (kk b o e).2) fun o e c => ?_
  have e' : some o = some (seqObj "list" vs.toArray 0) := e.symm.trans ha
  cases e'
  exact absurd (Value.type.inj c) (by decide)
end
end Tri
namespace Tri
open PySem PySem.Spec PyProof.Rows L2
/-- sorted(xs), xs a list of tuples of three whole numbers (k says which) -/
def rSorted3 (K : PySem.W.Frag) : List V → Hp → VK → Prop := fun vs H Q => ∃ (a : Addr) (xs : List V) (k : V → T3), vs = [V.ref a] ∧ SqL K H a xs ∧ (∀ x ∈ xs, ∃ t, x = V.ref t ∧ H t = some (.tup [.int (k x).1, .int (k x).2.1, .int (k x).2.2])) ∧
  ∀ ys p, ys.Perm xs → (ys.map k).Pairwise (fun a b => ¬ before b a) → H p = none → Q (.ref p) (upd H p (.lst ys))
theorem cr_sorted3 {X : Cx} : CallR X (.builtin "sorted") (rSorted3 X.K) := by
  intro pins z σ H vs us Q I r h
  obtain ⟨a, xs, k, rfl, hs, hx, q⟩ := h
  obtain ⟨its, rv, hl, hz⟩ := I.list hs
  obtain ⟨u, rfl, ru⟩ := vals1 r
  obtain rfl : u = Value.ref a := ru
  obtain ⟨e1, e2⟩ := refs_back rv fun x m => (hx x m).imp fun t e => e.1
  refine sorted3 (k := fun u => k (backV u)) hl.isList (by rw [← rv.length]; exact hz) (fun v hv => ?_) fun h' d out h1 h2 kp hd hn => ?_
  · obtain ⟨t, rfl⟩ := e2 v hv
    obtain ⟨t', e, ht⟩ := hx (V.ref t) (by rw [e1]; exact List.mem_map.mpr ⟨_, hv, rfl⟩)
    cases e
    obtain ⟨_, its2, r2, o, ho, hc, n, hd⟩ := I.hok _ _ ht
    cases r2 with
    | cons ra rr =>
      cases rr with
      | cons rb rs =>
        cases rs with
        | cons rc rt =>
          cases rt
          obtain ⟨t1, rfl⟩ := ra
          obtain ⟨t2, rfl⟩ := rb
          obtain ⟨t3, rfl⟩ := rc
          exact ⟨t, o, t1, t2, t3, n, rfl, ho, hc, hd⟩
  · have h3 : ∀ u ∈ out, ∃ a, u = Value.ref a := fun u hu => e2 u (h2.perm.mem_iff.mp hu)
    obtain ⟨n, hn⟩ := hn
    have hp : (out.map backV).Perm xs := by rw [e1]; exact h2.perm.map backV
    refine ⟨.ref d, upd H d (.lst (out.map backV)), I.laid (t' := z.toks) kp hd ⟨?_, out, n, vals_back h3, hn⟩, rfl, q _ d hp ?_ (I.hok.fresh hd)⟩
    · rw [hp.length_eq]
      exact hz
    · rw [List.map_map, List.pairwise_map]
      exact h1.imp fun g => bef_no.mp g
end Tri
namespace Tri
open Sp
/-! ### all pairs of places, in order -/
def rowP (x : Int) (i : Nat) : List Int → Nat → List T3
  | [], _ => []
  | y :: ms, j => (x + y, (i : Int), (j : Int)) :: rowP x i ms (j + 1)
def allP : List Int → Nat → List Int → List T3
  | [], _, _ => []
  | x :: ns, i, ms => rowP x i ms 0 ++ allP ns (i + 1) ms
theorem rowP_snoc (x : Int) (i : Nat) (y : Int) : ∀ (ms : List Int) (j : Nat), rowP x i (ms ++ [y]) j = rowP x i ms j ++ [(x + y, (i : Int), ((j + ms.length : Nat) : Int))]
  | [], j => rfl
  | z :: ms, j => by
    show _ :: rowP x i (ms ++ [y]) (j + 1) = _ :: (rowP x i ms (j + 1) ++ _)
    rw [rowP_snoc x i y ms (j + 1), List.length_cons, show j + 1 + ms.length = j + (ms.length + 1) from by omega]
theorem allP_snoc (x : Int) (ms : List Int) : ∀ (ns : List Int) (i : Nat), allP (ns ++ [x]) i ms = allP ns i ms ++ rowP x (i + ns.length) ms 0
  | [], i => by show rowP x i ms 0 ++ [] = _; rw [List.append_nil]; rfl
  | z :: ns, i => by
    show rowP z i ms 0 ++ allP (ns ++ [x]) (i + 1) ms = (rowP z i ms 0 ++ allP ns (i + 1) ms) ++ _
    rw [allP_snoc x ms ns (i + 1), List.length_cons, List.append_assoc, show i + 1 + ns.length = i + (ns.length + 1) from by omega]
theorem rowP_len (x : Int) (i : Nat) : ∀ (ms : List Int) (j : Nat), (rowP x i ms j).length = ms.length
  | [], _ => rfl
  | _ :: ms, j => by show (rowP x i ms (j + 1)).length + 1 = _; rw [rowP_len x i ms (j + 1)]; rfl
theorem allP_len (ms : List Int) : ∀ (ns : List Int) (i : Nat), (allP ns i ms).length = ns.length * ms.length
  | [], _ => by rw [List.length_nil, Nat.zero_mul]; rfl
  | x :: ns, i => by
    show (rowP x i ms 0 ++ allP ns (i + 1) ms).length = _
    rw [List.length_append, rowP_len, allP_len ms ns (i + 1), List.length_cons, Nat.add_mul, Nat.one_mul, Nat.add_comm]
theorem rowP_mem {x : Int} {i : Nat} {t : T3} : ∀ {ms : List Int} {j : Nat}, t ∈ rowP x i ms j ↔ ∃ (n : Nat) (y : Int), ms[n]? = some y ∧ t = (x + y, (i : Int), ((j + n : Nat) : Int))
  | [], j => by simp [rowP]
  | z :: ms, j => by
    show t ∈ _ :: rowP x i ms (j + 1) ↔ _
    rw [List.mem_cons, rowP_mem (ms := ms) (j := j + 1)]
    constructor
    · rintro (rfl | ⟨n, y, h1, rfl⟩)
      · exact ⟨0, z, rfl, rfl⟩
      · exact ⟨n + 1, y, h1, by rw [show j + 1 + n = j + (n + 1) from by omega]⟩
    · rintro ⟨n, y, h1, rfl⟩
      cases n with
      | zero => exact .inl (by cases h1; rfl)
      | succ n => exact .inr ⟨n, y, h1, by rw [show j + 1 + n = j + (n + 1) from by omega]⟩
theorem allP_mem {ms : List Int} {t : T3} : ∀ {ns : List Int} {i : Nat}, t ∈ allP ns i ms ↔ ∃ (m n : Nat) (x y : Int), ns[m]? = some x ∧ ms[n]? = some y ∧ t = (x + y, ((i + m : Nat) : Int), (n : Int))
  | [], i => by simp [allP]
  | z :: ns, i => by
    show t ∈ rowP z i ms 0 ++ allP ns (i + 1) ms ↔ _
    rw [List.mem_append, rowP_mem, allP_mem (ns := ns) (i := i + 1)]
    constructor
    · rintro (⟨n, y, h1, rfl⟩ | ⟨m, n, x, y, h1, h2, rfl⟩)
      · exact ⟨0, n, z, y, rfl, h1, by rw [Nat.zero_add]; rfl⟩
      · exact ⟨m + 1, n, x, y, h1, h2, by rw [show i + 1 + m = i + (m + 1) from by omega]⟩
    · rintro ⟨m, n, x, y, h1, h2, rfl⟩
      cases m with
      | zero => exact .inl ⟨n, y, h2, by cases h1; rw [Nat.zero_add]; rfl⟩
      | succ m => exact .inr ⟨m, n, x, y, h1, h2, by rw [show i + 1 + m = i + (m + 1) from by omega]⟩
/-- how many of a row of the pairs stand ahead of the pair (s, i, j) -/
theorem row_less {s x : Int} {i e j : Nat} (h : e < i) : ∀ (ms : List Int) (b : Nat), (rowP x e ms b).countP (fun t => bef t (s, (i : Int), (j : Int))) = cntB ms (s - x) + ms.count (s - x)
  | [], _ => rfl
  | y :: ms, b => by
    show List.countP _ (_ :: rowP x e ms (b + 1)) = _
    rw [List.countP_cons, row_less h ms (b + 1), cntB_cons, List.count_cons]
    by_cases c : y < s - x
    · rw [if_pos (bef_yes.mpr (.inl (by show x + y < s; omega))), if_pos c, if_neg (by simp; omega)]
      omega
    · by_cases d : y = s - x
      · rw [if_pos (bef_yes.mpr (.inr ⟨by show x + y = s; omega, .inl (by show (e : Int) < (i : Int); omega)⟩)), if_neg c, if_pos (by simp [d])]
        omega
      · have c2 : ¬ bef (x + y, (e : Int), (b : Int)) (s, (i : Int), (j : Int)) = true := fun z => by
          have := bef_yes.mp z
          unfold before at this
          dsimp only at this
          omega
        rw [if_neg c2, if_neg c, if_neg (by simpa using d)]
        omega
theorem row_more {s x : Int} {i e j : Nat} (h : i < e) : ∀ (ms : List Int) (b : Nat), (rowP x e ms b).countP (fun t => bef t (s, (i : Int), (j : Int))) = cntB ms (s - x)
  | [], _ => rfl
  | y :: ms, b => by
    show List.countP _ (_ :: rowP x e ms (b + 1)) = _
    rw [List.countP_cons, row_more h ms (b + 1), cntB_cons]
    by_cases c : y < s - x
    · rw [if_pos (bef_yes.mpr (.inl (by show x + y < s; omega))), if_pos c]
    · rw [if_neg (fun z => ?_), if_neg c]
      have := bef_yes.mp z
      unfold before at this
      dsimp only at this
      omega
theorem row_same {s x : Int} {i j : Nat} : ∀ (ms : List Int) (b : Nat), b ≤ j → (rowP x i ms b).countP (fun t => bef t (s, (i : Int), (j : Int))) = cntB ms (s - x) + (ms.take (j - b)).count (s - x)
  | [], _, _ => by rw [List.take_nil]; rfl
  | y :: ms, b, hb => by
    show List.countP _ (_ :: rowP x i ms (b + 1)) = _
    rw [List.countP_cons, cntB_cons]
    by_cases e : b = j
    · subst e
      have hz : ∀ (ms : List Int) (c : Nat), b < c → (rowP x i ms c).countP (fun t => bef t (s, (i : Int), (b : Int))) = cntB ms (s - x) := by
        intro ms
        induction ms with
        | nil => intro c _; rfl
        | cons z ms ih =>
          intro c hc
          show List.countP _ (_ :: rowP x i ms (c + 1)) = _
          rw [List.countP_cons, ih (c + 1) (by omega), cntB_cons]
          by_cases d : z < s - x
          · rw [if_pos (bef_yes.mpr (.inl (by show x + z < s; omega))), if_pos d]
          · rw [if_neg (fun q => ?_), if_neg d]
            have := bef_yes.mp q
            unfold before at this
            dsimp only at this
            omega
      rw [hz ms (b + 1) (by omega), Nat.sub_self, List.take_zero, List.count_nil]
      by_cases c : y < s - x
      · rw [if_pos (bef_yes.mpr (.inl (by show x + y < s; omega))), if_pos c]
      · rw [if_neg (fun q => ?_), if_neg c]
        have := bef_yes.mp q
        unfold before at this
        dsimp only at this
        omega
    · rw [row_same ms (b + 1) (by omega), show j - b = (j - (b + 1)) + 1 from by omega, List.take_succ_cons, List.count_cons]
      by_cases c : y < s - x
      · rw [if_pos (bef_yes.mpr (.inl (by show x + y < s; omega))), if_pos c, if_neg (by simp; omega)]
        omega
      · by_cases d : y = s - x
        · have c1 : bef (x + y, (i : Int), (b : Int)) (s, (i : Int), (j : Int)) = true := bef_yes.mpr (.inr ⟨by show x + y = s; omega, .inr ⟨rfl, by show (b : Int) < (j : Int); omega⟩⟩)
          rw [if_pos c1, if_neg c, if_pos (by simp [d])]
          omega
        · have c2 : ¬ bef (x + y, (i : Int), (b : Int)) (s, (i : Int), (j : Int)) = true := fun z => by
            have := bef_yes.mp z
            unfold before at this
            dsimp only at this
            omega
          rw [if_neg c2, if_neg c, if_neg (by simpa using d)]
          omega
theorem all_more {s : Int} {i j : Nat} {ms : List Int} : ∀ (ns : List Int) (e : Nat), i < e → (allP ns e ms).countP (fun t => bef t (s, (i : Int), (j : Int))) = cntS ns ms s
  | [], _, _ => rfl
  | x :: ns, e, h => by
    show List.countP _ (rowP x e ms 0 ++ allP ns (e + 1) ms) = _
    rw [List.countP_append, row_more h, all_more ns (e + 1) (by omega), cntS_cons]
/-- how many pairs stand ahead of (s, i, j): those of a lesser sum, those of its sum in the rows ahead, those of its sum ahead in its own row -/
theorem all_ahead {s x : Int} {j : Nat} {ms : List Int} : ∀ (ns : List Int) (e i : Nat), ns[i]? = some x →
    (allP ns e ms).countP (fun t => bef t (s, ((e + i : Nat) : Int), (j : Int))) = cntS ns ms s + ((ns.take i).map fun z => ms.count (s - z)).sum + (ms.take j).count (s - x)
  | [], _, i, h => by simp at h
  | z :: ns, e, 0, h => by
    obtain rfl : z = x := Option.some.inj h
    show List.countP _ (rowP z e ms 0 ++ allP ns (e + 1) ms) = _
    rw [List.countP_append, Nat.add_zero, row_same ms 0 (Nat.zero_le _), all_more ns (e + 1) (by omega), cntS_cons, List.take_zero, List.map_nil, List.sum_nil, Nat.sub_zero]
    omega
  | z :: ns, e, i + 1, h => by
    have ih := all_ahead (s := s) (j := j) (ms := ms) ns (e + 1) i h
    show List.countP _ (rowP z e ms 0 ++ allP ns (e + 1) ms) = _
    rw [List.countP_append, row_less (by omega), cntS_cons, List.take_succ_cons, List.map_cons, List.sum_cons]
    rw [show e + 1 + i = e + (i + 1) from by omega] at ih
    rw [ih]
    omega
/-- all pairs of both rows, sorted -/
structure Ord (ns ms : List Int) (L : List T3) : Prop where
  perm : L.Perm (allP ns 0 ms)
  sort : L.Pairwise fun a b => ¬ before b a
theorem before_or {a b : T3} (h : ¬ before b a) : before a b ∨ a = b := by
  obtain ⟨a1, a2, a3⟩ := a
  obtain ⟨b1, b2, b3⟩ := b
  unfold before at *
  dsimp only at *
  by_cases c : a1 = b1 ∧ a2 = b2 ∧ a3 = b3
  · obtain ⟨rfl, rfl, rfl⟩ := c
    exact .inr rfl
  · left
    omega
/-- in a sorted list an item stands behind just those that are ahead of it -/
theorem stands : ∀ {L : List T3} {p : T3}, (L.Pairwise fun a b => ¬ before b a) → p ∈ L → L[L.countP fun t => bef t p]? = some p
  | [], p, _, h => nomatch h
  | a :: L, p, hs, hm => by
    have hs' := List.pairwise_cons.mp hs
    rw [List.countP_cons]
    by_cases c : before a p
    · rw [if_pos (bef_yes.mpr c)]
      have hp : p ∈ L := by
        rcases List.mem_cons.mp hm with e | e
        · rw [e] at c
          unfold before at c
          omega
        · exact e
      rw [List.getElem?_cons_succ]
      exact stands hs'.2 hp
    · rw [if_neg (fun z => c (bef_yes.mp z))]
      have e : a = p := by
        rcases List.mem_cons.mp hm with e | e
        · exact e.symm
        · rcases before_or (hs'.1 p e) with k | k
          · exact absurd k c
          · exact k
      have z : List.countP (fun t => bef t p) L = 0 := by
        rw [List.countP_eq_zero]
        intro b hb hq
        rw [← e] at hq
        exact hs'.1 b hb (bef_yes.mp hq)
      rw [z, e]
      rfl
/-- THE PLACE of a pair in the order -/
theorem Ord.place {ns ms : List Int} {L : List T3} (o : Ord ns ms L) {i j : Nat} {x y : Int} (hx : ns[i]? = some x) (hy : ms[j]? = some y) :
    L[cntS ns ms (x + y) + ((ns.take i).map fun z => ms.count (x + y - z)).sum + (ms.take j).count y]? = some (x + y, (i : Int), (j : Int)) := by
  have m : (x + y, (i : Int), (j : Int)) ∈ L := o.perm.mem_iff.mpr (allP_mem.mpr ⟨i, j, x, y, hx, hy, by rw [Nat.zero_add]⟩)
  have h1 := stands o.sort m
  rw [o.perm.countP_eq] at h1
  have h2 := all_ahead (s := x + y) (j := j) (ms := ms) ns 0 i hx
  rw [Nat.zero_add, show x + y - x = y from by omega] at h2
  rw [h2] at h1
  exact h1
theorem Ord.len {ns ms : List Int} {L : List T3} (o : Ord ns ms L) : L.length = ns.length * ms.length := by rw [o.perm.length_eq, allP_len]
/-- there is just one order -/
theorem Ord.one {ns ms : List Int} {L M : List T3} (a : Ord ns ms L) (b : Ord ns ms M) : L = M :=
  (a.perm.trans b.perm.symm).eq_of_pairwise (fun x y _ _ h1 h2 => by
    rcases before_or h1 with k | k
    · exact absurd k h2
    · exact k) a.sort b.sort
/-! ### lists of such tuples in the heap -/
open L2 in
structure Trip (H : Hp) (ts : List PySem.Addr) (L : List T3) : Prop where
  len : ts.length = L.length
  at_ : ∀ (j : Nat) (t : PySem.Addr) (x : T3), ts[j]? = some t → L[j]? = some x → H t = some (.tup [.int x.1, .int x.2.1, .int x.2.2])
section
open L2 PySem
theorem Trip.nil {H : Hp} : Trip H [] [] := ⟨rfl, fun _ _ _ h => by simp at h⟩
theorem Trip.up {H H' : Hp} {ts : List Addr} {L : List T3} (t : Trip H ts L) (s : Same H H') : Trip H' ts L := ⟨t.len, fun j a x h1 h2 => s _ _ (t.at_ j a x h1 h2)⟩
/-- a list's own change leaves the tuples -/
theorem Trip.set {H : Hp} {ts : List Addr} {L : List T3} {D : Addr} {o : HO} {xs : List V} (t : Trip H ts L) (h : H D = some (.lst xs)) : Trip (upd H D o) ts L := ⟨t.len, fun j a x h1 h2 => by
  have e := t.at_ j a x h1 h2
  rw [upd_ne (fun z => by rw [z, h] at e; cases e)]
  exact e⟩
theorem Trip.app {H : Hp} {ts us : List Addr} {L M : List T3} (a : Trip H ts L) (b : Trip H us M) : Trip H (ts ++ us) (L ++ M) := by
  refine ⟨by rw [List.length_append, List.length_append, a.len, b.len], fun j t x h1 h2 => ?_⟩
  by_cases c : j < ts.length
  · rw [List.getElem?_append_left c] at h1
    rw [List.getElem?_append_left (by rw [← a.len]; exact c)] at h2
    exact a.at_ j t x h1 h2
  · rw [List.getElem?_append_right (by omega)] at h1
    rw [List.getElem?_append_right (by rw [← a.len]; omega), ← a.len] at h2
    exact b.at_ _ t x h1 h2
theorem Trip.one {H : Hp} {t : Addr} {x y z : Int} (h : H t = some (.tup [.int x, .int y, .int z])) : Trip H [t] [(x, y, z)] := ⟨rfl, fun j a w h1 h2 => by
  cases j with
  | zero => cases h1; cases h2; exact h
  | succ j => simp at h1⟩
def keyOf (H : Hp) : V → T3
  | .ref t => match H t with
    | some (.tup [.int a, .int b, .int c]) => (a, b, c)
    | _ => (0, 0, 0)
  | _ => (0, 0, 0)
theorem keyOf_at {H : Hp} {t : Addr} {x : T3} (h : H t = some (.tup [.int x.1, .int x.2.1, .int x.2.2])) : keyOf H (.ref t) = x := by
  unfold keyOf
  simp only [h]
theorem Trip.keys {H : Hp} {ts : List Addr} {L : List T3} (t : Trip H ts L) : (ts.map V.ref).map (keyOf H) = L := by
  refine List.ext_getElem? fun j => ?_
  rw [List.map_map, List.getElem?_map]
  cases e : ts[j]? with
  | none =>
    have := List.getElem?_eq_none_iff.mp e
    exact (List.getElem?_eq_none_iff.mpr (by rw [← t.len]; exact this)).symm
  | some a =>
    have h1 := (List.getElem?_eq_some_iff.mp e).1
    have h2 : j < L.length := by rw [← t.len]; exact h1
    rw [List.getElem?_eq_getElem h2]
    exact congrArg some (keyOf_at (t.at_ j a _ e (List.getElem?_eq_getElem h2)))
theorem Trip.mem {H : Hp} {ts : List Addr} {L : List T3} (t : Trip H ts L) {a : Addr} (h : a ∈ ts) : H a = some (.tup [.int (keyOf H (.ref a)).1, .int (keyOf H (.ref a)).2.1, .int (keyOf H (.ref a)).2.2]) := by
  obtain ⟨j, hj⟩ := List.mem_iff_getElem?.mp h
  have h2 : j < L.length := by rw [← t.len]; exact (List.getElem?_eq_some_iff.mp hj).1
  have e := t.at_ j a _ hj (List.getElem?_eq_getElem h2)
  rw [keyOf_at e]
  exact e
theorem all_refs : ∀ {ys : List V}, (∀ y ∈ ys, ∃ t, y = V.ref t) → ∃ us : List Addr, ys = us.map V.ref
  | [], _ => ⟨[], rfl⟩
  | y :: ys, h => by
    obtain ⟨t, rfl⟩ := h y List.mem_cons_self
    obtain ⟨us, rfl⟩ := all_refs fun z hz => h z (List.mem_cons_of_mem _ hz)
    exact ⟨t :: us, rfl⟩
/-- what sorted tells of them -/
theorem Trip.sorted {H : Hp} {ts : List Addr} {L : List T3} {ys : List V} (t : Trip H ts L) (hp : ys.Perm (ts.map V.ref)) : ∃ us : List Addr, ys = us.map V.ref ∧ Trip H us (ys.map (keyOf H)) ∧ (ys.map (keyOf H)).Perm L := by
  obtain ⟨us, rfl⟩ := all_refs fun y hy => by
    obtain ⟨a, _, e⟩ := List.mem_map.mp (hp.mem_iff.mp hy)
    exact ⟨a, e.symm⟩
  refine ⟨us, rfl, ⟨by rw [List.length_map, List.length_map], fun j a x h1 h2 => ?_⟩, ?_⟩
  · rw [List.getElem?_map, List.getElem?_map, h1] at h2
    obtain rfl := Option.some.inj h2
    have m : V.ref a ∈ us.map V.ref := List.mem_map.mpr ⟨a, List.mem_of_getElem? h1, rfl⟩
    obtain ⟨b, hb, e⟩ := List.mem_map.mp (hp.mem_iff.mp m)
    cases e
    exact t.mem hb
  · have := hp.map (keyOf H)
    rw [t.keys] at this
    exact this
end
end Tri
namespace Sp
open PySem L2 Tri
def spOrder (K : PySem.W.Frag) : L2.Sp := fun vs H Q _ => ∃ (p q : Addr) (ns ms : List Int), vs = [.ref p, .ref q] ∧ SqL K H p (ns.map V.int) ∧ SqL K H q (ms.map V.int) ∧ ns.length ≤ 300 ∧ ms.length ≤ 300 ∧
  ∀ (r : Addr) (ts : List Addr) (L : List T3) (H' : Hp), Same H H' → H r = none → H' r = some (.lst (ts.map V.ref)) → Trip H' ts L → Ord ns ms L → Q (.ref r) H'
theorem take_all_rows (ns ms : List Int) : allP (ns.take ns.length) 0 ms = allP ns 0 ms := by rw [take_all]
/-- a tuple of names as a comprehension's target: the written part and the length by name -/
theorem pg_tupK {X : Cx} {K : PySem.W.Frag} {es : List Expr} {k : Nat} {pos : Pos} {t : TGs} {n : Nat} (hK : X.K = K) (hc : X.calm = true) (h : PGs X es t) (hn : (assignEach es X.env).length = n) (hst : (assignEach es X.env).findIdx? (·.1) = none) : PG X (.Tuple es k pos) (gTup K n t) := hK ▸ pg_tup hc h hn hst
/-! ### what the laws of the order promise -/
def tri (w : T3) : List V := [.int w.1, .int w.2.1, .int w.2.2]
abbrev dt (w : T3) : PyData := .tuple [.int w.1, .int w.2.1, .int w.2.2]
structure Sml (w : T3) : Prop where
  a : w.1.natAbs.log2 < 60
  b : w.2.1.natAbs.log2 < 60
  c : w.2.2.natAbs.log2 < 60
theorem dp_tri {K : PySem.W.Frag} {H : Hp} {t : Addr} {w : T3} (h : H t = some (.tup (tri w))) : Dp K H (.ref t) (dt w) := .tup (.inl (.inl h)) (.cons (.int _) (.cons (.int _) (.cons (.int _) .nil)))
theorem lay_tri (w : T3) : PyData.canLay0 (dt w) = true := by simp only [PyData.canLay0, PyData.canLayAll0]; rfl
theorem shaped_tri (w : T3) : SeqAt.shaped (dt w) = true := by
  unfold SeqAt.shaped
  rw [lay_tri]
  simp only [PyData.depth, PyData.depthAll]
  rfl
theorem shown_tri {w : T3} (h : Sml w) : (dt w).showable = true ∧ (dt w).hasDict = false ∧ (dt w).shown.length ≤ sizeLine ∧ (dt w).depth ≤ 60 := by
  obtain ⟨h1, h2, h3⟩ := Gd.show_ints [w.1, w.2.1, w.2.2] (by
    intro n hn
    simp only [List.mem_cons, List.not_mem_nil, or_false] at hn
    rcases hn with rfl | rfl | rfl
    · exact h.a
    · exact h.b
    · exact h.c)
  refine ⟨?_, PyData.hasDict_of_canLay _ (lay_tri w), ?_, ?_⟩
  · rw [PyData.showable]; exact h1
  · have := PyData.shown_le 61 (by decide) (dt w) (by rw [PyData.leavesShort]; exact h2)
    rw [PyData.weight] at this
    have e : sizeLine = 16777216 := by decide
    have e2 : PyData.weightAll [PyData.int w.1, .int w.2.1, .int w.2.2] ≤ 61 * 3 := h3
    omega
  · simp only [PyData.depth, PyData.depthAll]; decide
/-- a tuple as it should be, or None as it should be -/
def spTuple : L2.Sp := fun vs H Q _ => (vs = [.non, .non] ∨ ∃ (t u : Addr) (w : T3), vs = [.ref t, .ref u] ∧ H t = some (.tup (tri w)) ∧ H u = some (.tup (tri w)) ∧ Sml w) ∧ Q (.bl true) H
/-- the so-manieth pair -/
def spSumAt (K : PySem.W.Frag) : L2.Sp := fun vs H Q _ => ∃ (p q : Addr) (ns ms : List Int) (n : Nat) (L : List T3) (w : T3), vs = [.ref p, .ref q, .int (n : Int)] ∧ SqL K H p (ns.map V.int) ∧ SqL K H q (ms.map V.int) ∧ ns.Pairwise (· ≤ ·) ∧ ms.Pairwise (· ≤ ·) ∧ ns.length ≤ 1000 ∧ ms.length ≤ 1000 ∧
  Ord ns ms L ∧ L[n]? = some w ∧ ∀ (t : Addr) (H' : Hp), Same H H' → H' t = some (.tup (tri w)) → Q (.ref t) H'
/-- places that are asked for -/
def spPlaces : L2.Sp := fun vs H Q _ => ∃ (a d : Addr) (ts : List Addr) (L : List T3), vs = [.ref a, .ref d] ∧ HandAt H a ∧ d ≠ a ∧ H d = some (.lst (ts.map V.ref)) ∧ Trip H ts L ∧ L.length ≤ 90000 ∧
  ∀ (r : Addr) (ps : List Int) (H' : Hp), Ext a H H' → H r = none → H' r = some (.lst (ps.map V.int)) → (∀ n ∈ ps, 0 ≤ n ∧ n < L.length) → Q (.ref r) H'
theorem Trip.ext {a : Addr} {H H' : Hp} {ts : List Addr} {L : List T3} (t : Trip H ts L) (h : HandAt H a) (e : Ext a H H') : Trip H' ts L := ⟨t.len, fun j b x h1 h2 => by
  have g := t.at_ j b x h1 h2
  obtain ⟨u, v, hh, _⟩ := h
  exact e.keep _ _ g fun z => by rw [z, hh] at g; cases g⟩
theorem rgV_ints (n : Nat) : rgV 0 (n : Int) = ((List.range n).map fun (k : Nat) => (k : Int)).map V.int := by
  unfold rgV
  rw [List.map_map, show ((n : Int) - 0).toNat = n from by omega]
  refine List.map_congr_left fun k _ => ?_
  show V.int (0 + (k : Int)) = V.int (k : Int)
  rw [Int.zero_add]
theorem eqv_tri (w : T3) : PyData.eqv (dt w) (dt w) = true := by
  rw [PyData.eqv]
  refine eqvAll_same fun x hx => ?_
  simp only [List.mem_cons, List.not_mem_nil, or_false] at hx
  rcases hx with rfl | rfl | rfl <;> simp [PyData.eqv]
theorem log_of {n : Int} (h1 : -1000000000000000000 < n) (h2 : n < 1000000000000000000) : n.natAbs.log2 < 60 := by
  by_cases h0 : n.natAbs = 0
  · rw [h0]; decide
  · exact (Nat.log2_lt h0).mpr (by omega)
theorem ord_small {ns ms : List Int} {L : List T3} (o : Ord ns ms L) (fn : Fine ns) (fm : Fine ms) (l1 : ns.length ≤ 1000) (l2 : ms.length ≤ 1000) {n : Nat} {w : T3} (h : L[n]? = some w) : Sml w := by
  obtain ⟨i, j, x, y, hx, hy, rfl⟩ := allP_mem.mp (o.perm.mem_iff.mp (List.mem_of_getElem? h))
  have h1 := (List.getElem?_eq_some_iff.mp hx).1
  have h2 := (List.getElem?_eq_some_iff.mp hy).1
  have b1 := fn.2 x (List.mem_of_getElem? hx)
  have b2 := fm.2 y (List.mem_of_getElem? hy)
  exact ⟨log_of (by show _ < x + y; omega) (by show x + y < _; omega), log_of (by show _ < ((0 + i : Nat) : Int); omega) (by show ((0 + i : Nat) : Int) < _; omega), log_of (by show _ < (j : Int); omega) (by show (j : Int) < _; omega)⟩
end Sp

namespace Sp
open PySem L2
/-! ### differences: the rows of these laws -/
def spNumber : L2.Sp := fun vs H Q _ => ∃ (a : Addr) (k x y : Int), vs = [.ref a, .int k, .int x, .int y] ∧ HandAt H a ∧ (-100 ≤ x ∧ x ≤ 100) ∧ (0 ≤ y ∧ y ≤ 300000000000000) ∧
  ∀ (r : Int) (H' : Hp), Ext a H H' → -1000000000000000 ≤ r → r ≤ 1000000000000000 → Q (.int r) H'
def spRow21 : L2.Sp := fun vs H Q _ => ∃ (a : Addr) (n : Nat), vs = [.ref a, .int (n : Int)] ∧ HandAt H a ∧ n ≤ 300 ∧ ∀ (p : Addr) (ns : List Int) (H' : Hp), Ext a H H' → H p = none → H' p = some (.lst (ns.map V.int)) → ns.length ≤ 300 → Fine ns → Q (.ref p) H'
def spSize : L2.Sp := fun vs H Q _ => ∃ (a : Addr) (k : Int), vs = [.ref a, .int k, .int 300] ∧ HandAt H a ∧ ∀ (n : Nat) (H' : Hp), Ext a H H' → n ≤ 300 → Q (.int (n : Int)) H'
def spTwo21 : L2.Sp := fun vs H Q _ => ∃ (a : Addr) (k : Int), vs = [.ref a, .int k] ∧ HandAt H a ∧
  ∀ (t p q : Addr) (ns ms : List Int) (H' : Hp), Ext a H H' → H' t = some (.lst [.ref p, .ref q]) → t ≠ a → RowAt H' a p ns → RowAt H' a q ms → H p = none → H q = none → Q (.ref t) H'
theorem cut_to (xs : List V) (n : Nat) : (cutV xs none (some (n : Int))).length ≤ n := by
  unfold cutV
  rw [List.length_take]
  refine Nat.le_trans (Nat.min_le_left _ _) (Nat.le_trans (Nat.sub_le _ _) ?_)
  simp only [HT.sIx]
  first | omega | (split <;> omega) | (split <;> split <;> omega)
/-- how many differences, first less second, are below n -/
def cntD (ns ms : List Int) (n : Int) : Nat := (ns.map fun x => ms.countP fun y => decide (x - y < n)).sum
theorem cntD_snoc (ns ms : List Int) (x n : Int) : cntD (ns ++ [x]) ms n = cntD ns ms n + ms.countP fun y => decide (x - y < n) := by
  unfold cntD
  rw [List.map_append, List.sum_append]
  rfl
def spDiff (K : PySem.W.Frag) : L2.Sp := fun vs H Q _ => ∃ (p q : Addr) (ns ms : List Int) (n : Int), vs = [.ref p, .ref q, .int n] ∧ SqL K H p (ns.map V.int) ∧ SqL K H q (ms.map V.int) ∧ ns.Pairwise (· ≤ ·) ∧ ms.Pairwise (· ≤ ·) ∧ ns.length ≤ 1000 ∧ ms.length ≤ 1000 ∧
  ∀ H', Same H H' → Q (.int (cntD ns ms n : Nat)) H'
def spAsked21 (K : PySem.W.Frag) : L2.Sp := fun vs H Q _ => ∃ (a s : Addr) (xs : List Int), vs = [.ref a, .ref s] ∧ HandAt H a ∧ s ≠ a ∧ H s = some (.lst (xs.map V.int)) ∧ 0 < xs.length ∧ xs.length ≤ 1000 ∧ (∀ x ∈ xs, -(2 ^ 60) < x ∧ x < 2 ^ 60) ∧
  ∀ (r : Addr) (zs : List Int) (H' : Hp), Ext a H H' → H r = none → H' r = some (.lst (zs.map V.int)) → zs.length ≤ 9 → Q (.ref r) H'
def spRight21 (K : PySem.W.Frag) : L2.Sp := fun vs H Q _ => ∃ (p q : Addr) (ns ms : List Int) (n : Int), vs = [.ref p, .ref q, .int n] ∧ SqL K H p (ns.map V.int) ∧ SqL K H q (ms.map V.int) ∧ ns.Pairwise (· ≤ ·) ∧ ms.Pairwise (· ≤ ·) ∧ ns.length ≤ 300 ∧ ms.length ≤ 300 ∧ ∀ H', Same H H' → Q (.bl true) H'
theorem cut_from (xs : List V) (k : Nat) : cutV xs (some (k : Int)) none = xs.drop k := by
  unfold cutV
  rw [HT.sIx_nat, HT.sIx_none]
  by_cases h : k ≤ xs.length
  · rw [Nat.min_eq_left h]
    exact List.take_of_length_le (by rw [List.length_drop]; exact Nat.le_refl _)
  · rw [Nat.min_eq_right (by omega), List.drop_of_length_le (Nat.le_refl _), List.drop_of_length_le (by omega), List.take_nil]
/-- how many differences within a row, a later one less an earlier one, are below n -/
def cntW : List Int → Int → Nat
  | [], _ => 0
  | x :: xs, n => (xs.countP fun y => decide (y - x < n)) + cntW xs n
theorem cntW_drop {ns : List Int} {i : Nat} {x : Int} (n : Int) (h : ns[i]? = some x) : cntW (ns.drop i) n = ((ns.drop (i + 1)).countP fun y => decide (y - x < n)) + cntW (ns.drop (i + 1)) n := by
  have hl := (List.getElem?_eq_some_iff.mp h).1
  have e : ns.drop i = x :: ns.drop (i + 1) := by
    rw [List.drop_eq_getElem_cons hl, (List.getElem?_eq_some_iff.mp h).2]
  rw [e]
  rfl
def spWith (K : PySem.W.Frag) : L2.Sp := fun vs H Q _ => ∃ (p : Addr) (ns : List Int) (n : Int), vs = [.ref p, .int n] ∧ SqL K H p (ns.map V.int) ∧ ns.Pairwise (· ≤ ·) ∧ ns.length ≤ 1000 ∧ ∀ H', Same H H' → Q (.int (cntW ns n : Nat)) H'
def spRight23 (K : PySem.W.Frag) : L2.Sp := fun vs H Q _ => ∃ (p : Addr) (ns : List Int) (n : Int), vs = [.ref p, .int n] ∧ SqL K H p (ns.map V.int) ∧ ns.Pairwise (· ≤ ·) ∧ ns.length ≤ 300 ∧ ∀ H', Same H H' → Q (.bl true) H'
/-! ### the order of the differences -/
open Tri
theorem rowP_nodup (x : Int) (i : Nat) : ∀ (ms : List Int) (j : Nat), (rowP x i ms j).Nodup
  | [], _ => List.nodup_nil
  | y :: ms, j => by
    show (_ :: rowP x i ms (j + 1)).Nodup
    refine List.nodup_cons.mpr ⟨fun h => ?_, rowP_nodup x i ms (j + 1)⟩
    obtain ⟨n, z, _, e⟩ := rowP_mem.mp h
    have e3 : (j : Int) = ((j + 1 + n : Nat) : Int) := congrArg (fun t : T3 => t.2.2) e
    omega
theorem allP_nodup (ms : List Int) : ∀ (ns : List Int) (i : Nat), (allP ns i ms).Nodup
  | [], _ => List.nodup_nil
  | x :: ns, i => by
    show (rowP x i ms 0 ++ allP ns (i + 1) ms).Nodup
    refine List.nodup_append.mpr ⟨rowP_nodup x i ms 0, allP_nodup ms ns (i + 1), fun a ha b hb e => ?_⟩
    obtain ⟨n, y, _, e1⟩ := rowP_mem.mp ha
    obtain ⟨m, k, u, v, _, _, e2⟩ := allP_mem.mp hb
    rw [e1, e2] at e
    have e3 : (i : Int) = ((i + 1 + m : Nat) : Int) := congrArg (fun t : T3 => t.2.1) e
    omega
theorem ord_exists (ns ms : List Int) : ∃ L, Tri.Ord ns ms L := by
  refine ⟨(allP ns 0 ms).mergeSort fun a b => !bef b a, List.mergeSort_perm _ _, ?_⟩
  refine (List.pairwise_mergeSort (le := fun a b => !bef b a) (fun a b c h1 h2 => ?_) (fun a b => ?_) (allP ns 0 ms)).imp fun {a b} h => ?_
  · have q1 : ¬ before b a := fun z => by rw [bef_yes.mpr z] at h1; cases h1
    have q2 : ¬ before c b := fun z => by rw [bef_yes.mpr z] at h2; cases h2
    have q3 : ¬ before c a := by unfold before at *; omega
    show (!bef c a) = true
    rw [bef_no.mpr q3]
    rfl
  · by_cases z : before b a
    · have z2 : ¬ before a b := by unfold before at *; omega
      rw [bef_no.mpr z2]
      simp
    · rw [bef_no.mpr z]
      simp
  · exact fun z => by rw [bef_yes.mpr z] at h; cases h
/-- what stands at a place of the order, and which place that is -/
theorem ord_at {ns ms : List Int} {L : List T3} (o : Tri.Ord ns ms L) {n : Nat} {w : T3} (h : L[n]? = some w) :
    ∃ (i j : Nat) (x y : Int), ns[i]? = some x ∧ ms[j]? = some y ∧ w = (x + y, (i : Int), (j : Int)) ∧ n = cntS ns ms (x + y) + ((ns.take i).map fun z => ms.count (x + y - z)).sum + (ms.take j).count y := by
  obtain ⟨i, j, x, y, hx, hy, rfl⟩ := allP_mem.mp (o.perm.mem_iff.mp (List.mem_of_getElem? h))
  rw [Nat.zero_add] at h ⊢
  refine ⟨i, j, x, y, hx, hy, rfl, ?_⟩
  have h2 := o.place hx hy
  have nd : L.Nodup := o.perm.nodup_iff.mpr (allP_nodup ms ns 0)
  obtain ⟨k1, e1⟩ := List.getElem?_eq_some_iff.mp h
  obtain ⟨k2, e2⟩ := List.getElem?_eq_some_iff.mp h2
  have e := e1.trans e2.symm
  rcases Nat.lt_trichotomy n (cntS ns ms (x + y) + ((ns.take i).map fun z => ms.count (x + y - z)).sum + (ms.take j).count y) with c | c | c
  · exact absurd e (List.pairwise_iff_getElem.mp nd _ _ k1 k2 c)
  · exact c
  · exact absurd e.symm (List.pairwise_iff_getElem.mp nd _ _ k2 k1 c)
def negs (ms : List Int) : List Int := ms.map fun y => 0 - y
def spDiffAt (K : PySem.W.Frag) : L2.Sp := fun vs H Q _ => ∃ (p q : Addr) (ns ms : List Int) (n : Nat) (L : List T3) (w : T3), vs = [.ref p, .ref q, .int (n : Int)] ∧ SqL K H p (ns.map V.int) ∧ SqL K H q (ms.map V.int) ∧ ns.Pairwise (· ≤ ·) ∧ ms.Pairwise (· ≤ ·) ∧ ns.length ≤ 1000 ∧ ms.length ≤ 1000 ∧
  Tri.Ord ns (negs ms) L ∧ L[n]? = some w ∧ ∀ (t : Addr) (H' : Hp), Same H H' → H' t = some (.tup (tri w)) → Q (.ref t) H'
def spTriple : L2.Sp := fun vs H Q _ => ∃ (t u : Addr) (w : T3), vs = [.ref t, .ref u] ∧ H t = some (.tup (tri w)) ∧ H u = some (.tup (tri w)) ∧ ∀ H', Same H H' → Q (.bl true) H'
theorem call_isiK {X : Cx} {K : PySem.W.Frag} (hK : X.K = K) : CallR X (.builtin "isinstance") (rIsi K) := hK ▸ call_isi
/-- how many pairs stand ahead of a pair, by the law's own count -/
def spAhead (K : PySem.W.Frag) : L2.Sp := fun vs H Q _ => ∃ (p q u : Addr) (ns ms : List Int) (i j : Nat) (x y : Int), vs = [.ref p, .ref q, .ref u] ∧ SqL K H p (ns.map V.int) ∧ SqL K H q (ms.map V.int) ∧ H u = some (.tup [.int (i : Int), .int (j : Int)]) ∧ ns.length ≤ 1000 ∧ ms.length ≤ 1000 ∧ ns[i]? = some x ∧ ms[j]? = some y ∧
  ∀ H', Same H H' → Q (.int ((cntD ns ms (x - y) + ((ns.take i).map fun z => ms.countP fun v => decide (z - v = x - y)).sum + (ms.take j).countP fun v => decide (x - v = x - y) : Nat) : Int)) H'
theorem cut_take (xs : List V) (k : Nat) : cutV xs none (some (k : Int)) = xs.take k := by
  unfold cutV
  rw [HT.sIx_nat, HT.sIx_none, List.drop_zero, Nat.sub_zero]
  by_cases h : k ≤ xs.length
  · rw [Nat.min_eq_left h]
  · rw [Nat.min_eq_right (by omega), List.take_of_length_le (Nat.le_refl _), List.take_of_length_le (by omega)]
def spRight22 (K : PySem.W.Frag) : L2.Sp := fun vs H Q _ => ∃ (p q : Addr) (ns ms : List Int) (n : Nat), vs = [.ref p, .ref q, .int (n : Int)] ∧ SqL K H p (ns.map V.int) ∧ SqL K H q (ms.map V.int) ∧ ns.Pairwise (· ≤ ·) ∧ ms.Pairwise (· ≤ ·) ∧ ns.length ≤ 300 ∧ ms.length ≤ 300 ∧ n < ns.length * ms.length ∧
  ∀ H', Same H H' → Q (.bl true) H'
theorem negs_at {ms : List Int} {j : Nat} {y : Int} (h : (negs ms)[j]? = some y) : ms[j]? = some (0 - y) := by
  unfold negs at h
  rw [List.getElem?_map] at h
  cases e : ms[j]? with
  | none => rw [e] at h; cases h
  | some z =>
    rw [e] at h
    obtain rfl : 0 - z = y := Option.some.inj h
    rw [show 0 - (0 - z) = z from by omega]
theorem negs_cnt (x n : Int) : ∀ ms : List Int, cntB (negs ms) (n - x) = ms.countP fun v => decide (x - v < n)
  | [] => rfl
  | y :: ms => by
    show cntB ((0 - y) :: negs ms) (n - x) = _
    rw [cntB_cons, negs_cnt x n ms, List.countP_cons]
    by_cases h : x - y < n
    · rw [if_pos (by omega), if_pos (by simpa using h)]
    · rw [if_neg (by omega), if_neg (by simpa using h)]
theorem negs_cntS (ms : List Int) (n : Int) : ∀ ns : List Int, cntS ns (negs ms) n = cntD ns ms n
  | [] => rfl
  | x :: ns => by
    rw [cntS_cons, negs_cnt, negs_cntS ms n ns]
    rfl
theorem negs_count (z n : Int) : ∀ ms : List Int, (negs ms).count (n - z) = ms.countP fun v => decide (z - v = n)
  | [] => rfl
  | y :: ms => by
    show ((0 - y) :: negs ms).count (n - z) = _
    rw [List.count_cons, negs_count z n ms, List.countP_cons]
    by_cases h : z - y = n
    · rw [if_pos (by simp; omega), if_pos (by simpa using h)]
    · rw [if_neg (by simp; omega), if_neg (by simpa using h)]
theorem negs_take (ms : List Int) (j : Nat) : (negs ms).take j = negs (ms.take j) := List.map_take.symm
theorem negs_len (ms : List Int) : (negs ms).length = ms.length := List.length_map _
/-- the place of a difference, by the law's own count -/
theorem diff_at {ns ms : List Int} {L : List Tri.T3} (o : Tri.Ord ns (negs ms) L) {n : Nat} {w : Tri.T3} (h : L[n]? = some w) :
    ∃ (i j : Nat) (x y : Int), ns[i]? = some x ∧ ms[j]? = some y ∧ w = (x - y, (i : Int), (j : Int)) ∧ n = cntD ns ms (x - y) + ((ns.take i).map fun z => ms.countP fun v => decide (z - v = x - y)).sum + (ms.take j).countP fun v => decide (x - v = x - y) := by
  obtain ⟨i, j, x, y, hx, hy, hw, hn⟩ := ord_at o h
  refine ⟨i, j, x, 0 - y, hx, negs_at hy, by rw [hw, show x - (0 - y) = x + y from by omega], ?_⟩
  rw [show x - (0 - y) = x + y from by omega, hn, negs_cntS, negs_take]
  have e1 : (negs (ms.take j)).count y = (ms.take j).countP fun v => decide (x - v = x + y) := by
    have := negs_count x (x + y) (ms.take j)
    rw [show x + y - x = y from by omega] at this
    exact this
  have e2 : (fun z => (negs ms).count (x + y - z)) = fun z => ms.countP fun v => decide (z - v = x + y) := funext fun z => negs_count z (x + y) ms
  rw [e1, e2]
end Sp

/-! numbers and rows as texts. -/
namespace Tx
open PySem PySem.NumText PyProof.Rows
abbrev toStr (n : Int) : Str := Str.ofString (toString n)
abbrev dg (m : Nat) : List Nat := (Nat.toDigits 10 m).map Char.toNat
theorem ofs (z : String) : (Str.ofString z).cps.toList = z.toList.map Char.toNat := by
  rw [PySem.Str.ofString_eq_toList]
theorem cps_nat (m : Nat) : (toStr (m : Int)).cps.toList = dg m := by
  rw [ofs]
  show (Nat.repr m).toList.map Char.toNat = _
  rw [Nat.toList_repr]
theorem cps_neg {m : Nat} (h : 0 < m) : (toStr (-(m : Int))).cps.toList = 45 :: dg m := by
  rw [ofs]
  obtain ⟨k, rfl⟩ : ∃ k, m = k + 1 := ⟨m - 1, by omega⟩
  have e : toString (-((k + 1 : Nat) : Int)) = "-" ++ Nat.repr (k + 1) := rfl
  rw [e, String.toList_append, List.map_append, Nat.toList_repr]
  rfl
theorem dg_all (m : Nat) : AllDigits (dg m) := by
  intro c hc
  obtain ⟨ch, hch, e⟩ := List.mem_map.mp hc
  have r := PyProof.Rows.digit_range (Nat.isDigit_of_mem_toDigits (by decide) (by decide) hch)
  rw [← e]
  exact r
theorem dg_val (m : Nat) : digitsVal (dg m) = m := PySem.W.KIN.val_back m
theorem dg_ne (m : Nat) : dg m ≠ [] := fun e => by
  have h := dg_val m
  rw [e] at h
  have h0 : m = 0 := h.symm
  subst h0
  exact absurd e (by decide)
theorem dg_len {m k : Nat} (hk : 0 < k) (h : m < 10 ^ k) : (dg m).length ≤ k := by
  rw [List.length_map]
  exact (Nat.length_toDigits_le_iff (by decide) hk).mpr h
theorem len_cps (x : Str) : x.cps.toList.length = x.length := by simp [Str.length]
theorem str_ext {x y : Str} (h : x.cps.toList = y.cps.toList) : x = y := Str.ext' (Array.toList_inj.mp h)
/-- how a number is written -/
theorem cps_int (n : Int) : (∃ m : Nat, n = (m : Int) ∧ (toStr n).cps.toList = dg m) ∨ ∃ m : Nat, 0 < m ∧ n = -(m : Int) ∧ (toStr n).cps.toList = 45 :: dg m := by
  rcases Int.le_total 0 n with h | h
  · obtain ⟨m, rfl⟩ := Int.eq_ofNat_of_zero_le h
    exact .inl ⟨m, rfl, cps_nat m⟩
  · by_cases c : n = 0
    · subst c
      exact .inl ⟨0, rfl, cps_nat 0⟩
    · refine .inr ⟨(-n).toNat, by omega, by omega, ?_⟩
      have := cps_neg (m := (-n).toNat) (by omega)
      rw [show -(((-n).toNat : Nat) : Int) = n by omega] at this
      exact this
theorem to_len {n : Int} {k : Nat} (hk : 0 < k) (h : n.natAbs < 10 ^ k) : (toStr n).length ≤ k + 1 := by
  rw [← len_cps]
  rcases cps_int n with ⟨m, rfl, e⟩ | ⟨m, h0, rfl, e⟩
  · rw [e]
    have := dg_len (m := m) hk (by simpa using h)
    omega
  · rw [e, List.length_cons]
    have := dg_len (m := m) hk (by simpa using h)
    omega
theorem reads {n : Int} (h : n.natAbs < 10 ^ 60) : PySem.intText? (toStr n) = some n := by
  have l := to_len (n := n) (k := 60) (by decide) h
  rcases cps_int n with ⟨m, rfl, e⟩ | ⟨m, h0, rfl, e⟩
  · rw [intText_digits (by rw [e]; exact dg_all m) (by rw [e]; exact dg_ne m) (by omega), e, dg_val]
  · rw [intText_neg e (dg_all m) (dg_ne m) (by omega), dg_val]
theorem free (n : Int) : 32 ∉ (toStr n).cps.toList := by
  rcases cps_int n with ⟨m, _, e⟩ | ⟨m, _, _, e⟩
  · rw [e]
    intro h
    have := dg_all m 32 h
    omega
  · rw [e]
    intro h
    rcases List.mem_cons.mp h with h | h
    · exact absurd h (by decide)
    · have := dg_all m 32 h
      omega
/-! a word's figures -/
abbrev minus : Str := "-"
abbrev blankS : Str := " "
theorem minus_eq : minus = ⟨#[45]⟩ := by decide +kernel
theorem blank_eq : blankS = ⟨#[32]⟩ := by decide +kernel
abbrev figs (x : Str) : Str := Txt.removeprefix x minus
theorem figs_cps (x : Str) : (figs x).cps.toList = (match x.cps.toList with | 45 :: r => r | l => l) := by
  unfold figs Txt.removeprefix
  rw [minus_eq]
  have iff := StrLaws.subAt_one x 45 0
  by_cases c : x.cps.toList[0]? = some 45
  · have h := iff.mpr c
    rw [if_pos h.2]
    obtain ⟨r, hr⟩ : ∃ r, x.cps.toList = 45 :: r := by
      cases e : x.cps.toList with
      | nil => rw [e] at c; cases c
      | cons a r => rw [e] at c; cases c; exact ⟨r, rfl⟩
    have hl := len_cps x
    rw [hr, List.length_cons] at hl
    show (if x.length - 1 == x.length then x else Builtin.Str.strSub x 1 x.length).cps.toList = _
    rw [if_neg (by simp; omega), StrLaws.strSub_toList, hr]
    show (List.drop 1 (45 :: r)).take (x.length - 1) = r
    rw [List.drop_one, List.tail_cons]
    exact List.take_of_length_le (by omega)
  · have hn : Builtin.Str.subAt x ⟨#[45]⟩ 0 = false := by
      cases e : Builtin.Str.subAt x ⟨#[45]⟩ 0 with
      | false => rfl
      | true =>
        exfalso
        rw [StrLaws.subAt_eq] at e
        have e2 : (x.cps.toList.drop 0).take 1 = [45] := eq_of_beq (show ((x.cps.toList.drop 0).take 1 == [45]) = true from e)
        rw [List.drop_zero] at e2
        cases q : x.cps.toList with
        | nil => rw [q] at e2; cases e2
        | cons a r =>
          rw [q] at e2 c
          have : a = 45 := by simpa using e2
          exact c (by rw [this]; rfl)
    rw [hn]
    show x.cps.toList = _
    cases e : x.cps.toList with
    | nil => rfl
    | cons a r =>
      rw [e] at c
      have : a ≠ 45 := fun z => c (by rw [z]; rfl)
      split
      · rename_i h
        cases h
        exact absurd rfl this
      · rfl
theorem ascii_digit : ∀ c : Fin 128, Unicode.isDigit c.val = decide (48 ≤ c.val ∧ c.val ≤ 57) := by decide +kernel
theorem isascii_iff (x : Str) : Txt.isascii x = true ↔ ∀ c ∈ x.cps.toList, c < 128 := by
  unfold Txt.isascii
  rw [← Array.all_toList, List.all_eq_true]
  exact ⟨fun h c hc => of_decide_eq_true (h c hc), fun h c hc => decide_eq_true (h c hc)⟩
/-- figures alone, one at least -/
def good (x : Str) : Bool := Txt.isascii (figs x) && Txt.isdigit (figs x)
theorem good_iff (x : Str) : good x = true ↔ AllDigits (figs x).cps.toList ∧ (figs x).cps.toList ≠ [] := by
  unfold good
  rw [Bool.and_eq_true, isascii_iff]
  have hd : Txt.isdigit (figs x) = true ↔ (figs x).cps.toList ≠ [] ∧ ∀ c ∈ (figs x).cps.toList, Unicode.isDigit c = true := by
    unfold Txt.isdigit
    rw [Bool.and_eq_true, ← Array.all_toList, List.all_eq_true]
    have hl := len_cps (figs x)
    constructor
    · rintro ⟨h1, h2⟩
      have h1 : 0 < (figs x).length := of_decide_eq_true h1
      exact ⟨fun e => by rw [e] at hl; simp at hl; omega, h2⟩
    · rintro ⟨h1, h2⟩
      have := List.length_pos_iff.mpr h1
      exact ⟨decide_eq_true (by omega), h2⟩
  rw [hd]
  constructor
  · rintro ⟨h1, h2, h3⟩
    refine ⟨fun c hc => ?_, h2⟩
    have a := ascii_digit ⟨c, h1 c hc⟩
    have b := h3 c hc
    dsimp only at a
    rw [a] at b
    exact of_decide_eq_true b
  · rintro ⟨h1, h2⟩
    refine ⟨fun c hc => by have := h1 c hc; omega, h2, fun c hc => ?_⟩
    have r := h1 c hc
    have a := ascii_digit ⟨c, by omega⟩
    dsimp only at a
    rw [a]
    exact decide_eq_true r
/-- the number that such a word is read as -/
def valOf (x : Str) : Int := match x.cps.toList with
  | 45 :: r => -((digitsVal r : Nat) : Int)
  | l => ((digitsVal l : Nat) : Int)
theorem good_reads {x : Str} (h : good x = true) (hl : x.length ≤ 640) : PySem.intText? x = some (valOf x) := by
  obtain ⟨h1, h2⟩ := (good_iff x).mp h
  rw [figs_cps] at h1 h2
  unfold valOf
  split at h1
  · rename_i r e
    rw [e] at h2
    rw [intText_neg e h1 h2 (by omega)]
  · rename_i n
    split at h2
    · rename_i r e
      exact absurd e (n r)
    · rw [intText_digits h1 h2 (by omega)]
/-- the number that a word of at most so many figures writes -/
def writ (x : Str) (m : Int) : Option Int := if good x = true ∧ ((figs x).length : Int) ≤ m then (if toStr (valOf x) = x then some (valOf x) else none) else none
theorem figs_len (x : Str) : (figs x).length ≤ x.length := by
  have h := figs_cps x
  have h1 := len_cps x
  have h2 := len_cps (figs x)
  rw [h] at h2
  split at h2
  · rename_i r e
    rw [e, List.length_cons] at h1
    omega
  · omega
theorem len_figs (x : Str) : x.length ≤ (figs x).length + 1 := by
  have h := figs_cps x
  have h1 := len_cps x
  have h2 := len_cps (figs x)
  rw [h] at h2
  split at h2
  · rename_i r e
    rw [e, List.length_cons] at h1
    omega
  · omega
theorem writ_num {x : Str} {m v : Int} (h : writ x m = some v) : toStr v = x := by
  unfold writ at h
  split at h
  · split at h
    · rename_i e
      cases h
      exact e
    · cases h
  · cases h
theorem figs_int (n : Int) : (figs (toStr n)).cps.toList = dg n.natAbs := by
  rw [figs_cps]
  rcases cps_int n with ⟨m, rfl, e⟩ | ⟨m, h0, rfl, e⟩
  · rw [e]
    split
    · rename_i r q
      have := dg_all m 45 (by rw [q]; exact List.mem_cons_self)
      omega
    · simp
  · rw [e]
    simp
theorem good_int (n : Int) : good (toStr n) = true := (good_iff _).mpr ⟨by rw [figs_int]; exact dg_all _, by rw [figs_int]; exact dg_ne _⟩
theorem val_int (n : Int) : valOf (toStr n) = n := by
  unfold valOf
  rcases cps_int n with ⟨m, rfl, e⟩ | ⟨m, h0, rfl, e⟩
  · rw [e]
    split
    · rename_i r q
      have := dg_all m 45 (by rw [q]; exact List.mem_cons_self)
      omega
    · rw [dg_val]
  · rw [e]
    show -((digitsVal (dg m) : Nat) : Int) = _
    rw [dg_val]
theorem writ_int {n : Int} {k : Nat} (hk : 0 < k) (h : n.natAbs < 10 ^ k) : writ (toStr n) k = some n := by
  have hl : (figs (toStr n)).length ≤ k := by
    rw [← len_cps, figs_int]
    exact dg_len hk h
  unfold writ
  rw [val_int, if_pos ⟨good_int n, by omega⟩, if_pos rfl]
theorem fold_lt : ∀ (cs : List Nat) (a : Nat), AllDigits cs → cs.foldl (fun acc c => acc * 10 + (c - 48)) a < (a + 1) * 10 ^ cs.length
  | [], a, _ => by simp
  | c :: cs, a, h => by
    have ih := fold_lt cs (a * 10 + (c - 48)) h.tail
    have hc := h.head
    rw [List.foldl_cons, List.length_cons, Nat.pow_succ]
    refine Nat.lt_of_lt_of_le ih ?_
    rw [Nat.mul_comm (10 ^ cs.length) 10, ← Nat.mul_assoc]
    exact Nat.mul_le_mul_right _ (by omega)
theorem val_lt {cs : List Nat} (h : AllDigits cs) : digitsVal cs < 10 ^ cs.length := by
  have := fold_lt cs 0 h
  rw [Nat.zero_add, Nat.one_mul] at this
  exact this
theorem valOf_lt {x : Str} (h : good x = true) : (valOf x).natAbs < 10 ^ (figs x).length := by
  have h1 := ((good_iff x).mp h).1
  have e := figs_cps x
  have l := len_cps (figs x)
  rw [← l]
  rw [e] at h1 ⊢
  unfold valOf
  split at h1
  · rename_i r q
    have := val_lt h1
    show (-((digitsVal r : Nat) : Int)).natAbs < 10 ^ r.length
    rw [Int.natAbs_neg]
    exact this
  · rename_i n
    have := val_lt h1
    rw [Int.natAbs_natCast]
    exact this
theorem valOf_log {x : Str} (h : good x = true) (hl : (figs x).length ≤ 60) : (valOf x).natAbs.log2 < 1920 := by
  have h1 := valOf_lt h
  by_cases c : (valOf x).natAbs = 0
  · rw [c]
    decide
  · rw [Nat.log2_lt c]
    refine Nat.lt_of_lt_of_le h1 (Nat.le_trans (Nat.pow_le_pow_right (by decide) hl) ?_)
    decide +kernel
/-! words parted by blanks -/
theorem cut_one {u v s t : List Nat} (hu : 32 ∉ u) (hv : 32 ∉ v) (h : u ++ 32 :: s = v ++ 32 :: t) : u = v ∧ s = t := by
  induction u generalizing v with
  | nil =>
    cases v with
    | nil => exact ⟨rfl, (List.cons.inj h).2⟩
    | cons b v =>
      have := (List.cons.inj h).1
      exact absurd (by rw [this]; exact List.mem_cons_self) hv
  | cons a u ih =>
    cases v with
    | nil =>
      have := (List.cons.inj h).1
      exact absurd (by rw [← this]; exact List.mem_cons_self) hu
    | cons b v =>
      obtain ⟨h1, h2⟩ := List.cons.inj h
      obtain ⟨h3, h4⟩ := ih (fun z => hu (List.mem_cons_of_mem _ z)) (fun z => hv (List.mem_cons_of_mem _ z)) h2
      exact ⟨by rw [h1, h3], h4⟩
theorem join_cps (a b : Str) (r : List Str) : (Str.join blankS (a :: b :: r)).cps.toList = a.cps.toList ++ 32 :: (Str.join blankS (b :: r)).cps.toList := by
  show ((a.cps ++ blankS.cps) ++ (Str.join blankS (b :: r)).cps).toList = _
  rw [Array.toList_append, Array.toList_append, blank_eq]
  simp
theorem join_one : ∀ {A B : List Str}, A ≠ [] → B ≠ [] → (∀ p ∈ A, 32 ∉ p.cps.toList) → (∀ p ∈ B, 32 ∉ p.cps.toList) → Str.join blankS A = Str.join blankS B → A = B
  | [], _, h, _, _, _, _ => absurd rfl h
  | _, [], _, h, _, _, _ => absurd rfl h
  | [a], [b], _, _, _, _, h => by
    have h : a = b := h
    rw [h]
  | [a], b :: c :: r, _, _, ha, _, h => by
    have e := congrArg (fun z : Str => z.cps.toList) h
    rw [join_cps] at e
    have e : a.cps.toList = _ := e
    exact absurd (by rw [e]; simp) (ha a List.mem_cons_self)
  | a :: c :: r, [b], _, _, _, hb, h => by
    have e := congrArg (fun z : Str => z.cps.toList) h
    rw [join_cps] at e
    have e : _ = b.cps.toList := e
    exact absurd (by rw [← e]; simp) (hb b List.mem_cons_self)
  | a :: c :: r, b :: d :: q, _, _, ha, hb, h => by
    have e := congrArg (fun z : Str => z.cps.toList) h
    rw [join_cps, join_cps] at e
    obtain ⟨h1, h2⟩ := cut_one (ha a List.mem_cons_self) (hb b List.mem_cons_self) e
    rw [str_ext h1, join_one (List.cons_ne_nil _ _) (List.cons_ne_nil _ _) (fun p hp => ha p (List.mem_cons_of_mem _ hp)) (fun p hp => hb p (List.mem_cons_of_mem _ hp)) (str_ext h2)]
theorem split_ne (x : Str) : Txt.split x blankS ≠ [] := by
  unfold Txt.split
  split
  · simp
  · split
    · simp
    · unfold Builtin.Str.partsBetween
      intro h
      have := congrArg List.length h
      simp at this
theorem split_free (x : Str) : ∀ p ∈ Txt.split x blankS, 32 ∉ p.cps.toList := by
  rw [blank_eq]
  exact StrLaws.split_free x 32
theorem split_join {A : List Str} (h : A ≠ []) (ha : ∀ p ∈ A, 32 ∉ p.cps.toList) : Txt.split (Str.join blankS A) blankS = A :=
  join_one (split_ne _) h (split_free _) ha (StrLaws.join_split _ _)
theorem join_eq (A : List Str) : Txt.join blankS A = Str.join blankS A := StrLaws.glued_eq_join _ _
/-- a row as a text -/
def rowText (ns : List Int) : Str := if ns = [] then minus else Str.join blankS (ns.map toStr)
theorem row_split {ns : List Int} (h : ns ≠ []) : Txt.split (rowText ns) blankS = ns.map toStr := by
  unfold rowText
  rw [if_neg h]
  refine split_join (by simpa using h) fun p hp => ?_
  obtain ⟨n, _, rfl⟩ := List.mem_map.mp hp
  exact free n
theorem row_minus {ns : List Int} (h : ns ≠ []) : rowText ns ≠ minus := fun e => by
  have h1 := row_split h
  rw [e] at h1
  have h2 : Txt.split (Str.join blankS [minus]) blankS = [minus] := split_join (by simp) fun p hp => by
    rw [List.mem_singleton.mp hp]
    decide +kernel
  have h3 : Str.join blankS [minus] = minus := rfl
  rw [h3, h1] at h2
  cases ns with
  | nil => exact h rfl
  | cons n ns =>
    have h4 : toStr n = minus := (List.cons.inj h2).1
    have h5 := good_int n
    rw [h4] at h5
    exact absurd h5 (by decide +kernel)
/-- the numbers that words write, all of them -/
def writAll (m : Int) : List Str → Option (List Int)
  | [] => some []
  | x :: xs => match writ x m, writAll m xs with
    | some v, some vs => some (v :: vs)
    | _, _ => none
theorem writAll_int {ns : List Int} (h : ∀ n ∈ ns, n.natAbs < 10 ^ 16) : writAll 16 (ns.map toStr) = some ns := by
  induction ns with
  | nil => rfl
  | cons n ns ih =>
    rw [List.map_cons]
    unfold writAll
    rw [show (16 : Int) = ((16 : Nat) : Int) from rfl, writ_int (by decide) (h n List.mem_cons_self), show ((16 : Nat) : Int) = 16 from rfl, ih fun k hk => h k (List.mem_cons_of_mem _ hk)]
theorem sum_len : ∀ {ns : List Int}, (∀ n ∈ ns, n.natAbs < 10 ^ 16) → ((ns.map toStr).map (·.length)).sum ≤ 17 * ns.length
  | [], _ => Nat.le_refl _
  | n :: ns, h => by
    have ih := sum_len (ns := ns) fun k hk => h k (List.mem_cons_of_mem _ hk)
    have l := to_len (n := n) (k := 16) (by decide) (h n List.mem_cons_self)
    rw [List.map_cons, List.map_cons, List.sum_cons, List.length_cons]
    omega
theorem row_len {ns : List Int} (h : ∀ n ∈ ns, n.natAbs < 10 ^ 16) : (rowText ns).length ≤ 18 * ns.length + 1 := by
  unfold rowText
  split
  · rename_i e
    rw [e]
    decide +kernel
  · have h1 := StrLaws.join_length_le blankS (ns.map toStr)
    have h2 := sum_len h
    have h3 : blankS.length = 1 := by decide +kernel
    rw [h3, List.length_map] at h1
    omega
end Tx

/-! draws from a deck, rows written and read: k53, k54. -/
namespace Sp
open PySem L2
/-- a deck: the number, whether it is stirred, how often it was asked (at most n times) -/
def DeckAt (n : Nat) (H : Hp) (a : Addr) : Prop := ∃ x f c : Int, H a = some (.lst [.int x, .int f, .int c]) ∧ 0 ≤ c ∧ c ≤ n
/-- all but the deck stays -/
structure Ky (a : Addr) (H H' : Hp) : Prop where
  of : ∀ b o, H b = some o → b ≠ a → H' b = some o
section
variable {a b p : Addr} {H H' H1 : Hp} {n m : Nat} {xs : List V} {o : HO} {K : PySem.W.Frag}
theorem Ky.refl : Ky a H H := ⟨fun _ _ h _ => h⟩
theorem Ky.trans (e : Ky a H H1) (f : Ky a H1 H') : Ky a H H' := ⟨fun b o h n => f.of b o (e.of b o h n) n⟩
theorem Ky.same (s : Same H H') : Ky a H H' := ⟨fun b o h _ => s b o h⟩
theorem Ky.made (e : Ky a H H') (n : H a = none) : Same H H' := fun b o h => e.of b o h fun z => by rw [z, n] at h; cases h
theorem Ky.free (e : Ky a H H') (n : b ≠ a) (h : H' b = none) : H b = none := by
  cases q : H b with
  | none => rfl
  | some o => rw [e.of b o q n] at h; cases h
theorem DeckAt.same (s : Same H H') (h : DeckAt n H a) : DeckAt n H' a := by
  obtain ⟨x, f, c, e, r⟩ := h
  exact ⟨x, f, c, s _ _ e, r⟩
theorem DeckAt.mono (h : DeckAt n H a) (l : n ≤ m) : DeckAt m H a := by
  obtain ⟨x, f, c, e, r0, r1⟩ := h
  exact ⟨x, f, c, e, r0, by omega⟩
theorem DeckAt.ne (h : DeckAt n H a) (q : H p = none) : p ≠ a := by
  obtain ⟨x, f, c, e, _⟩ := h
  exact fun z => by rw [z, e] at q; cases q
theorem DeckAt.ky (h : DeckAt n H a) (s : Same H H') : DeckAt n H' a := h.same s
theorem seqKy (e : Ky a H H') (n : p ≠ a) (h : SqL K H p xs) : SqL K H' p xs := by
  rcases h with (h | ⟨o, h⟩) | h
  · exact .inl (.inl (e.of _ _ h n))
  · exact .inl (.inr ⟨o, e.of _ _ h n⟩)
  · exact .inr h
theorem ky_put {x : HO} : Ky a H (upd H a x) := ⟨fun b o h n => by rw [upd_ne n]; exact h⟩
end
def spTk : L2.Sp := fun vs H Q _ => ∃ (n : Nat) (a : Addr) (m : Int), vs = [.ref a, .int m] ∧ DeckAt n H a ∧ n ≤ 80000 ∧ 0 < m ∧ m < 2 ^ 62 ∧ ∀ r H', Ky a H H' → DeckAt (n + 1) H' a → 0 ≤ r → r < m → Q (.int r) H'
def spDk : L2.Sp := fun vs H Q _ => ∃ (c k : Int), vs = [.int c, .int k] ∧ 0 ≤ k ∧ k ≤ 10 ∧ ∀ (a : Addr) H', Same H H' → H a = none → DeckAt 10 H' a → Q (.ref a) H'
def SmallT (n : Int) : Prop := -1000000000000000 ≤ n ∧ n ≤ 1000000000000000
theorem SmallT.abs {n : Int} (h : SmallT n) : n.natAbs < 10 ^ 16 := by
  have h1 := h.1
  have h2 := h.2
  have e : (10 : Nat) ^ 16 = 10000000000000000 := by decide
  omega
theorem SmallT.log {n : Int} (h : SmallT n) : n.natAbs.log2 < 1920 := by
  by_cases c : n.natAbs = 0
  · rw [c]
    decide
  · rw [Nat.log2_lt c]
    refine Nat.lt_of_lt_of_le (m := 2 ^ 50) ?_ (Nat.pow_le_pow_right (by decide) (by decide))
    have h1 := h.1
    have h2 := h.2
    have e : (2 : Nat) ^ 50 = 1125899906842624 := by decide
    omega
def spNumK : L2.Sp := fun vs H Q _ => ∃ (n : Nat) (a : Addr), vs = [.ref a] ∧ DeckAt n H a ∧ n ≤ 70000 ∧ ∀ v H', Ky a H H' → DeckAt (n + 3) H' a → SmallT v → Q (.int v) H'
def spRowK : L2.Sp := fun vs H Q _ => ∃ (n : Nat) (a : Addr) (m : Nat), vs = [.ref a, .int (m : Int)] ∧ DeckAt n H a ∧ n ≤ 10000 ∧ m ≤ 300 ∧ ∀ (p : Addr) (ns : List Int) H', Ky a H H' → H p = none → H' p = some (.lst (ns.map V.int)) → DeckAt (n + 3 * m + 3) H' a → ns.length ≤ m + 3 → Fine ns → Q (.ref p) H'
def spShown (K : PySem.W.Frag) : L2.Sp := fun vs H Q _ => ∃ (p : Addr) (ns : List Int), vs = [.ref p] ∧ SqL K H p (ns.map V.int) ∧ (∀ n ∈ ns, SmallT n) ∧ ns.length ≤ 1000 ∧ ∀ H', Same H H' → Q (.str (Tx.rowText ns)) H'
def optV : Option Int → V
  | some v => .int v
  | none => .non
def spWrit : L2.Sp := fun vs H Q _ => ∃ (x : Str) (m : Int), vs = [.str x, .int m] ∧ 0 ≤ m ∧ m ≤ 40 ∧ x.length ≤ 100000 ∧ Q (optV (Tx.writ x m)) H
def spRead (K : PySem.W.Frag) : L2.Sp := fun vs H Q _ => ∃ (ns : List Int), vs = [.str (Tx.rowText ns)] ∧ (∀ n ∈ ns, SmallT n) ∧ ns.Pairwise (· ≤ ·) ∧ ns.length ≤ 1000 ∧ ∀ (r : Addr) H', Same H H' → H r = none → H' r = some (.lst (ns.map V.int)) → Q (.ref r) H'
theorem Fine.smallT {ns : List Int} (f : Fine ns) : ∀ n ∈ ns, SmallT n := fun n h => f.2 n h
end Sp
namespace Sp
open PySem L2
/-- a text and its row, held in the list l -/
def EntT (l : Addr) (H : Hp) (e : Addr) : Prop := ∃ (ns : List Int) (p : Addr), H e = some (.tup [.str (Tx.rowText ns), .ref p]) ∧ H p = some (.lst (ns.map V.int)) ∧ p ≠ l ∧ Fine ns ∧ ns.length ≤ 400
theorem EntT.kp {l e : Addr} {H H' : Hp} (k : Kp l H H') (n : ∃ xs, H l = some (.lst xs)) (h : EntT l H e) : EntT l H' e := by
  obtain ⟨ns, p, e1, e2, np, f, ln⟩ := h
  obtain ⟨xs, el⟩ := n
  exact ⟨ns, p, k _ _ e1 (fun z => by rw [z, el] at e1; cases e1), k _ _ e2 np, np, f, ln⟩
end Sp

namespace Sp
open PySem L2
def top (i : Nat) : Stmt := PySem.Challenge.pw_sumplace_k53_rows_written.main.body.getD i (.Pass ⟨0, 0, 0, 0⟩)
abbrev sis_whole : Stmt := top 4
abbrev sis_row : Stmt := top 5
abbrev sshow_row : Stmt := top 8
abbrev sread_row : Stmt := top 9
abbrev swritten_number : Stmt := top 10
abbrev slaw_cell_at : Stmt := top 12
abbrev slaw_take : Stmt := top 13
abbrev slaw_deck : Stmt := top 14
abbrev slaw_number : Stmt := top 15
abbrev slaw_row : Stmt := top 16
abbrev slaw_shown : Stmt := top 17
abbrev slaw : Stmt := top 18
theorem scis_whole : FnScope ["thing"] ["thing"] (defScope sis_whole) := ⟨rfl, rfl, rfl, by decide +kernel, rfl, by decide +kernel, by decide +kernel⟩
theorem scis_row : FnScope ["thing", "at", "number"] ["thing"] (defScope sis_row) := ⟨rfl, rfl, rfl, by decide +kernel, rfl, by decide +kernel, by decide +kernel⟩
theorem scshow_row : FnScope ["row", "number"] ["row"] (defScope sshow_row) := ⟨rfl, rfl, rfl, by decide +kernel, rfl, by decide +kernel, by decide +kernel⟩
theorem scread_row : FnScope ["text", "word", "row"] ["text"] (defScope sread_row) := ⟨rfl, rfl, rfl, by decide +kernel, rfl, by decide +kernel, by decide +kernel⟩
theorem scwritten_number : FnScope ["word", "most", "figures", "number"] ["word", "most"] (defScope swritten_number) := ⟨rfl, rfl, rfl, by decide +kernel, rfl, by decide +kernel, by decide +kernel⟩
theorem sclaw_cell_at : FnScope ["script", "k"] ["script", "k"] (defScope slaw_cell_at) := ⟨rfl, rfl, rfl, by decide +kernel, rfl, by decide +kernel, by decide +kernel⟩
theorem sclaw_take : FnScope ["deck", "many", "come", "number"] ["deck", "many"] (defScope slaw_take) := ⟨rfl, rfl, rfl, by decide +kernel, rfl, by decide +kernel, by decide +kernel⟩
theorem sclaw_deck : FnScope ["cell", "k"] ["cell", "k"] (defScope slaw_deck) := ⟨rfl, rfl, rfl, by decide +kernel, rfl, by decide +kernel, by decide +kernel⟩
theorem sclaw_number : FnScope ["deck", "size", "far"] ["deck"] (defScope slaw_number) := ⟨rfl, rfl, rfl, by decide +kernel, rfl, by decide +kernel, by decide +kernel⟩
theorem sclaw_row : FnScope ["deck", "most", "k", "row"] ["deck", "most"] (defScope slaw_row) := ⟨rfl, rfl, rfl, by decide +kernel, rfl, by decide +kernel, by decide +kernel⟩
theorem sclaw_shown : FnScope ["row", "number"] ["row"] (defScope slaw_shown) := ⟨rfl, rfl, rfl, by decide +kernel, rfl, by decide +kernel, by decide +kernel⟩
theorem sclaw : FnScope ["script", "held", "cell", "deck", "row", "k", "handed", "told", "text", "found"] ["script"] (defScope slaw) := ⟨rfl, rfl, rfl, by decide +kernel, rfl, by decide +kernel, by decide +kernel⟩
end Sp

namespace Sp
open PySem L2
section
variable {P : Program} {w : World} {K : PySem.W.Frag} {mg : Str → Option Value} {base : Heap}
local macro_rules | `(tactic| walk_at "side") => `(tactic| first
  | exact mulW (by omega) (by omega) (by omega) (by omega)
  | exact divW (by omega) (by omega)
  | exact mulW (by decide +kernel) (by decide +kernel) (by decide +kernel) (by decide +kernel)
  | (show CPow _ _; exact ⟨by decide, by decide, by decide⟩)
  | (show (0 : Int) < _; omega)
  | exact small (Nat.le_of_ble_eq_true rfl)
  | decide
  | omega
  | exact Pr.divG (by omega) (by omega) (by omega))
local macro_rules | `(tactic| walk_at "ne") => `(tactic| first | assumption | exact ne_of_none (by assumption) (by assumption) | exact Ne.symm (by assumption))
local macro_rules | `(tactic| walk_at "get") => `(tactic| first | assumption | exact upd_same | (refine (by assumption : Same _ _) _ _ ?_; walk_at "get") | (refine Ext.keep (by assumption) _ _ ?_ (by walk_at "ne"); walk_at "get"))
local macro_rules | `(tactic| walk_at "sq") => `(tactic| first | assumption | exact SqL.new (by walk_at "get") | exact Or.inl (Or.inl (by walk_at "get")) | (refine Same.seq (by assumption) ?_; walk_at "sq") | (refine seqExt (by assumption) (by walk_at "ne") ?_; walk_at "sq"))
local macro_rules | `(tactic| walk_at "hand") => `(tactic| first | assumption | (refine HandAt.same (by assumption) ?_; walk_at "hand") | (refine Ext.hand (by assumption) ?_; walk_at "hand"))
local macro_rules | `(tactic| walk_at "at") => `(tactic| first | exact at0 | exact at1)
local macro_rules | `(tactic| walk_at "s") => `(tactic| first
  | refine ⟨_, rfl, ?_⟩
  | refine ⟨_, _, rfl, rfl, ?_⟩
  | refine ⟨_, _, _, _, rfl, rfl, (by walk_at "sq"), (by walk_at "at"), ?_⟩
  | refine ⟨_, _, _, _, rfl, rfl, (by first | assumption | exact upd_same), rfl, ?_⟩
  | refine And.intro (by walk_at "side") ?_)
local macro_rules | `(tactic| walk_at "pos") => `(tactic| first | omega | decide | (show (0 : Int) < _; decide +kernel) | (show _ < (2 ^ 62 : Int); decide +kernel) | (show (0 : Int) < _; omega))

theorem ok_dk {f : Addr} {fd : FuncData} (F : Fun K "_law_deck" "_law_deck" slaw_deck f fd) : FnOk P w K mg base CX0 1 f fd ["cell", "k"] spDk := by
  have nd := sclaw_deck.nd
  refine F.ok sclaw_deck (fun vs H Q E h => ?_) (fun cdv A outer s H vs Q E hr h => ?_)
  · obtain ⟨c, k, rfl, _⟩ := h
    rfl
  · obtain ⟨c, k, rfl, k0, k1, q⟩ := h
    refine ⟨_, (pss_cons (ps_if (pt_cmpR op_ge (pv 0) (pe_op op_pow pe_int pe_int) (nomark _)) (pss_one (ps_ret (pe_lst (pa_cons (pe_op op_sub (pv 0) (pe_op op_pow pe_int pe_int)) (pa_cons pe_int (pa_cons (pv 1) pa_nil)))))) pss_nil)
      (pss_one (ps_ret (pe_lst (pa_cons (pv 0) (pa_cons pe_int (pa_cons (pv 1) pa_nil))))))), ?_⟩
    repeat walk_at "s"
    refine ite2 (fun z => ?_) (fun z => ?_)
    · repeat walk_at "s"
      intro p1 np1
      generalize hg1 : upd H p1 _ = H1
      have s1 : Same H H1 := hg1 ▸ same_new np1
      have e1 := (congrFun hg1 p1).symm.trans upd_same
      clear hg1
      exact q p1 H1 s1 np1 ⟨_, _, _, e1, k0, k1⟩
    · repeat walk_at "s"
      intro p1 np1
      generalize hg1 : upd H p1 _ = H1
      have s1 : Same H H1 := hg1 ▸ same_new np1
      have e1 := (congrFun hg1 p1).symm.trans upd_same
      clear hg1
      exact q p1 H1 s1 np1 ⟨_, _, _, e1, k0, k1⟩
theorem ok_tk {f : Addr} {fd : FuncData} (F : Fun K "_law_take" "_law_take" slaw_take f fd) : FnOk P w K mg base CX0 1 f fd ["deck", "many"] spTk := by
  have nd := sclaw_take.nd
  refine F.ok sclaw_take (fun vs H Q E h => ?_) (fun cdv A outer s H vs Q E hr h => ?_)
  · obtain ⟨n, a, m, rfl, _⟩ := h
    rfl
  · obtain ⟨n, a, m, rfl, ⟨x, g, c, e, c0, c1⟩, hn, m0, m1, q⟩ := h
    refine ⟨_, (pss_cons (ps_if (pt_cmpR op_eq (pe_ix ix_list (pv 0) pe_int (fun _ _ => rfl)) pe_int (nomark _)) (pss_cons (ps_set (i := 2) nd rfl (.inl rfl) (pe_op op_mod (pe_ix ix_list (pv 0) pe_int (fun _ _ => rfl)) (pv 1)))
      (pss_cons (ps_asg (pe_op op_fdivW (pe_ix ix_list (pv 0) pe_int (fun _ _ => rfl)) (pv 1)) (pg_sub (pv 0) pe_int set_list))
      (pss_one (ps_ret (pv 2))))) pss_nil)
      (pss_cons (ps_asg (pe_op op_add (pe_ix ix_list (pv 0) pe_int (fun _ _ => rfl)) pe_int) (pg_sub (pv 0) pe_int set_list))
      (pss_cons (ps_set (i := 3) nd rfl (.inl rfl) (pe_op op_mulW (pe_op op_mod (pe_ix ix_list (pv 0) pe_int (fun _ _ => rfl)) pe_int) (pe_op op_add (pe_op op_mulW (pe_ix ix_list (pv 0) pe_int (fun _ _ => rfl)) (pe_ix ix_list (pv 0) pe_int (fun _ _ => rfl))) pe_int)))
      (pss_cons (ps_set (i := 3) nd rfl (.inl rfl) (pe_op op_mod (pe_op op_add (pe_op op_add (pv 3) (pe_ix ix_list (pv 0) pe_int (fun _ _ => rfl))) pe_int) pe_int))
      (pss_cons (ps_set (i := 3) nd rfl (.inl rfl) (pe_op op_mod (pe_op op_mulW (pv 3) (pv 3)) pe_int))
      (pss_one (ps_ret (pe_op op_mod (pe_op op_fdivW (pe_op op_mod (pe_op op_mulW (pv 3) pe_int) pe_int) pe_int) (pv 1))))))))), ?_⟩
    repeat walk_at "s"
    refine ⟨rfl, _, rfl, ?_⟩
    refine ite2 (fun z => ?_) (fun z => ?_)
    · repeat walk_at "s"
      exact q _ _ ky_put ⟨_, _, _, upd_same, c0, by omega⟩ (Int.emod_nonneg _ (by omega)) (Int.emod_lt_of_pos _ m0)
    · repeat walk_at "s"
      refine ⟨_, _, _, .int c, rfl, rfl, SqL.new e, atI_nat (j := 2) rfl, ?_⟩
      repeat walk_at "s"
      have e2 : (upd H a (.lst ([V.int x, V.int g, V.int c].set (Int.toNat 2) (V.int (c + 1))))) a = some (.lst [V.int x, V.int g, V.int (c + 1)]) := upd_same
      have k2 : Ky a H (upd H a (.lst ([V.int x, V.int g, V.int c].set (Int.toNat 2) (V.int (c + 1))))) := ky_put
      generalize upd H a (.lst ([V.int x, V.int g, V.int c].set (Int.toNat 2) (V.int (c + 1)))) = H2 at e2 k2 ⊢
      have a2 : atI [V.int x, V.int g, V.int (c + 1)] 2 = some (.int (c + 1)) := atI_nat (j := 2) rfl
      have p0 : 0 ≤ (c + 1) * (c + 1) := Int.mul_nonneg (by omega) (by omega)
      have p1 : (c + 1) * (c + 1) ≤ 80001 * 80001 := Int.mul_le_mul (by omega) (by omega) (by omega) (by omega)
      have x0 := Int.emod_nonneg x (show (2147483647 : Int) ≠ 0 by decide)
      have x1 := Int.emod_lt_of_pos x (show (0 : Int) < 2147483647 by decide)
      refine ⟨_, _, _, .int (c + 1), rfl, rfl, SqL.new e2, a2, ?_⟩
      repeat walk_at "s"
      refine ⟨_, _, _, .int (c + 1), rfl, rfl, SqL.new e2, a2, ?_⟩
      repeat walk_at "s"
      refine ⟨_, _, _, .int (c + 1), rfl, rfl, SqL.new e2, a2, ?_⟩
      repeat walk_at "s"
      exact q _ _ k2 ⟨_, _, _, e2, by omega, by omega⟩ (Int.emod_nonneg _ (by omega)) (Int.emod_lt_of_pos _ m0)

theorem ok_num53 {f : Addr} {fd : FuncData} (F : Fun K "_law_number" "_law_number" slaw_number f fd) (claw_take : Cal P w K mg base 1 "_law_take" ["deck", "many"] spTk) : FnOk P w K mg base CX0 2 f fd ["deck"] spNumK := by
  have nd := sclaw_number.nd
  refine F.ok sclaw_number (fun vs H Q E h => ?_) (fun cdv A outer s H vs Q E hr h => ?_)
  · obtain ⟨n, a, rfl, _⟩ := h
    rfl
  · obtain ⟨n, a, rfl, h0, hn, q⟩ := h
    have hu := hr.units
    have t6 : (10 : Int) ^ Int.toNat 6 = 1000000 := by decide
    have t13 : (10 : Int) ^ Int.toNat 13 = 10000000000000 := by decide
    have t15 : (10 : Int) ^ Int.toNat 15 = 1000000000000000 := by decide
    have t9 : (10 : Int) ^ Int.toNat 9 = 1000000000 := by decide
    have t14 : (10 : Int) ^ Int.toNat 14 = 100000000000000 := by decide
    refine ⟨_, (pss_cons (ps_if (pt_cmpR op_gt (pe_own claw_take (hr.mono (by decide)) (by rfl) (pa_cons (pv 0) (pa_cons pe_int pa_nil))) pe_int (nomark _)) (pss_cons (ps_set (i := 1) nd rfl (.inl rfl) (pe_ix ix_list (pe_lst (pa_cons pe_int (pa_cons pe_int (pa_cons pe_int (pa_cons pe_int (pa_cons (pe_op op_pow pe_int pe_int) (pa_cons (pe_op op_pow pe_int pe_int) pa_nil))))))) (pe_own claw_take (hr.mono (by decide)) (by rfl) (pa_cons (pv 0) (pa_cons pe_int pa_nil))) (fun _ _ => rfl)))
      (pss_one (ps_ret (pe_op op_sub (pe_own claw_take (hr.mono (by decide)) (by rfl) (pa_cons (pv 0) (pa_cons (pv 1) pa_nil))) (pe_op op_fdivW (pv 1) pe_int))))) pss_nil)
      (pss_cons (ps_set (i := 2) nd rfl (.inl rfl) (pe_lst (pa_cons (pe_op op_pow pe_int pe_int) (pa_cons (pe_op op_sub (pe_op op_pow pe_int pe_int) pe_int) (pa_cons (pe_op op_pow pe_int pe_int) (pa_cons pe_int (pa_cons (pe_op op_add (pe_op op_pow pe_int pe_int) pe_int) pa_nil)))))))
      (pss_one (ps_ret (pe_op op_mulW (pe_ix ix_list (pv 2) (pe_own claw_take (hr.mono (by decide)) (by rfl) (pa_cons (pv 0) (pa_cons pe_int pa_nil))) (fun _ _ => rfl)) (pe_op op_sub pe_int (pe_op op_mulW pe_int (pe_own claw_take (hr.mono (by decide)) (by rfl) (pa_cons (pv 0) (pa_cons pe_int pa_nil)))))))))), ?_⟩
    repeat walk_at "s"
    refine ⟨n, a, 3, rfl, h0, by omega, by decide, by decide, fun r1 H1 k1 d1 a1 b1 => ?_⟩
    repeat walk_at "s"
    refine ite2 (fun z => ?_) (fun z => ?_)
    · repeat walk_at "s"
      intro p2 np2
      generalize hg2 : upd H1 p2 _ = H2
      have s2 : Same H1 H2 := hg2 ▸ same_new np2
      have e2 := (congrFun hg2 p2).symm.trans upd_same
      clear hg2
      have n2 : p2 ≠ a := DeckAt.ne d1 np2
      repeat walk_at "s"
      refine ⟨n + 1, a, 6, rfl, d1.same s2, by omega, by decide, by decide, fun r3 H3 k3 d3 a3 b3 => ?_⟩
      obtain ⟨sz, hsz, s0, s1⟩ : ∃ sz : Int, atI [V.int 7, V.int 7, V.int 60, V.int 60, V.int (10 ^ Int.toNat 6), V.int (10 ^ Int.toNat 13)] r3 = some (.int sz) ∧ 0 < sz ∧ sz ≤ 10000000000000 := by
        obtain ⟨x, h1, h2⟩ := at_draw (xs := [V.int 7, V.int 7, V.int 60, V.int 60, V.int (10 ^ Int.toNat 6), V.int (10 ^ Int.toNat 13)]) a3 b3
        rw [t6, t13] at h1 h2 ⊢
        simp only [List.mem_cons, List.not_mem_nil, or_false] at h2
        rcases h2 with rfl | rfl | rfl | rfl | rfl | rfl
        all_goals exact ⟨_, h1, by decide, by decide⟩
      refine ⟨_, _, _, _, rfl, rfl, SqL.new (k3.of _ _ e2 n2), hsz, ?_⟩
      repeat walk_at "s"
      refine ⟨n + 1 + 1, a, sz, rfl, d3, by omega, s0, by omega, fun r4 H4 k4 d4 a4 b4 => ?_⟩
      repeat walk_at "s"
      exact q _ H4 ((k1.trans (.same s2)).trans (k3.trans k4)) d4 ⟨by omega, by omega⟩
    · repeat walk_at "s"
      intro p2 np2
      generalize hg2 : upd H1 p2 _ = H2
      have s2 : Same H1 H2 := hg2 ▸ same_new np2
      have e2 := (congrFun hg2 p2).symm.trans upd_same
      clear hg2
      have n2 : p2 ≠ a := DeckAt.ne d1 np2
      repeat walk_at "s"
      refine ⟨n + 1, a, 5, rfl, d1.same s2, by omega, by decide, by decide, fun r3 H3 k3 d3 a3 b3 => ?_⟩
      obtain ⟨sz, hsz, s0, s1⟩ : ∃ sz : Int, atI [V.int (10 ^ Int.toNat 15), V.int (10 ^ Int.toNat 15 - 1), V.int (10 ^ Int.toNat 9), V.int 123456789012345, V.int (10 ^ Int.toNat 14 + 7)] r3 = some (.int sz) ∧ 0 < sz ∧ sz ≤ 1000000000000000 := by
        obtain ⟨x, h1, h2⟩ := at_draw (xs := [V.int (10 ^ Int.toNat 15), V.int (10 ^ Int.toNat 15 - 1), V.int (10 ^ Int.toNat 9), V.int 123456789012345, V.int (10 ^ Int.toNat 14 + 7)]) a3 b3
        rw [t15, t9, t14] at h1 h2 ⊢
        simp only [List.mem_cons, List.not_mem_nil, or_false] at h2
        rcases h2 with rfl | rfl | rfl | rfl | rfl
        all_goals exact ⟨_, h1, by decide, by decide⟩
      refine ⟨_, _, _, _, rfl, rfl, SqL.new (k3.of _ _ e2 n2), hsz, ?_⟩
      repeat walk_at "s"
      refine ⟨n + 1 + 1, a, 2, rfl, d3, by omega, by decide, by decide, fun r4 H4 k4 d4 a4 b4 => ?_⟩
      repeat walk_at "s"
      refine q _ H4 ((k1.trans (.same s2)).trans (k3.trans k4)) d4 ?_
      have : r4 = 0 ∨ r4 = 1 := by omega
      rcases this with rfl | rfl
      · exact ⟨by omega, by omega⟩
      · exact ⟨by omega, by omega⟩
theorem ok_row53 {f : Addr} {fd : FuncData} (B : Bt mg) (F : Fun K "_law_row" "_law_row" slaw_row f fd) (claw_take : Cal P w K mg base 1 "_law_take" ["deck", "many"] spTk) (claw_number : Cal P w K mg base 2 "_law_number" ["deck"] spNumK) : FnOk P w K mg base CX0 3 f fd ["deck", "most"] spRowK := by
  have nd := sclaw_row.nd
  refine F.ok sclaw_row (fun vs H Q E h => ?_) (fun cdv A outer s H vs Q E hr h => ?_)
  · obtain ⟨n, a, m, rfl, _⟩ := h
    rfl
  · obtain ⟨n, a, m, rfl, h0, hn, hm, q⟩ := h
    have hu := hr.units
    refine ⟨_, (pss_cons (ps_setLc (i := 3) (own := [("k", 2)]) (by rfl) nd rfl rfl (sw_true rfl rfl rfl (by decide +kernel)) (pi_range1 (by rfl) B.range_ (pa_cons (pe_own claw_take (hr.mono (by decide)) (by rfl) (pa_cons (pv 0) (pa_cons (pe_op op_add (pv 1) pe_int) pa_nil))) pa_nil)) (blkOk_by (own := [("k", 2)]) (N := ["deck", "most", "k", "row"]) (sc := defScope slaw_row) (by decide +kernel)) (fun _ _ _ _ _ => (pg_name (i := 2) nd rfl (.inl rfl))) (fun _ _ _ _ _ => pts_nil) (fun _ _ _ _ _ => (pe_own claw_number (hr.mono (by decide)) (by rfl) (pa_cons (pv 0) pa_nil))))
      (Evl.pss_cut (ps_if (PW.pt (pw_and (pt_cmpR (op_neD hu) (pv 3) (pe_lst pa_nil) (nomark _)) (pw_and1 (pt_cmpR op_eq (pe_own claw_take (hr.mono (by decide)) (by rfl) (pa_cons (pv 0) (pa_cons pe_int pa_nil))) pe_int (nomark _))))) (pss_one (ps_set (i := 3) nd rfl (.inl rfl) (pe_op op_cat (pv 3) (pe_op op_rep (pe_lst (pa_cons (pe_ix ix_list (pv 3) pe_int (fun _ _ => rfl)) pa_nil)) (pe_own claw_take (hr.mono (by decide)) (by rfl) (pa_cons (pv 0) (pa_cons pe_int pa_nil))))))) pss_nil)
      (pss_one (ps_ret (pe_callB cr_sortedI (by rfl) B.sorted_ (by decide +kernel) (pa_cons (pv 3) pa_nil)))))), ?_⟩
    repeat walk_at "s"
    refine ⟨n, a, (m : Int) + 1, rfl, h0, by omega, by omega, by omega, fun r1 H1 k1 d1 a1 b1 => ?_⟩
    repeat walk_at "s"
    intro D nD
    have nDa : D ≠ a := DeckAt.ne d1 nD
    obtain ⟨c, rfl⟩ : ∃ c : Nat, r1 = (c : Int) := ⟨r1.toNat, by omega⟩
    refine lc_range (lo := 0) (n := c) (fun i H' => ∃ xs : List Int, xs.length = i ∧ (∀ x ∈ xs, SmallT x) ∧ Ky a H1 H' ∧ DeckAt (n + 1 + 3 * i) H' a ∧ H' D = some (.lst (xs.map V.int))) ⟨[], rfl, (fun _ h => nomatch h), .same (same_new nD), d1.same (same_new nD), upd_same⟩ (fun i Hi hi w => ?_) (fun H5 w => ?_)
    · obtain ⟨xs, lx, sx, ki, di', ei⟩ := w
      refine ⟨rfl, ?_⟩
      repeat walk_at "s"
      refine ⟨n + 1 + 3 * i, a, rfl, di', by omega, fun v H4 k4 d4 sv => ?_⟩
      have ei4 := k4.of _ _ ei nDa
      have kp : Ky a H1 (upd H4 D (.lst (xs.map V.int ++ [V.int v]))) := ⟨fun b o e nb => by
        rw [upd_ne (ne_of_none e nD)]
        exact (ki.trans k4).of b o e nb⟩
      have dd : DeckAt (n + 1 + 3 * (i + 1)) (upd H4 D (.lst (xs.map V.int ++ [V.int v]))) a := by
        obtain ⟨x, g, c, e, r⟩ := d4
        exact ⟨x, g, c, by rw [upd_ne nDa.symm]; exact e, by omega, by omega⟩
      exact ⟨_, ei4, smallLt (by rw [List.length_map]; omega), xs ++ [v], by rw [List.length_append, lx]; rfl, fun y hy => (List.mem_append.mp hy).elim (sx y) (fun h => by rw [List.mem_singleton.mp h]; exact sv), kp, dd, by rw [upd_same, List.map_append]; rfl⟩
    obtain ⟨xs, lx, sx, k5, d5, e5⟩ := w
    repeat walk_at "s"
    refine ⟨fun σ' H' => ∃ (p : Addr) (ns : List Int), Ky a H5 H' ∧ DeckAt (n + 1 + 3 * c + 2) H' a ∧ H' p = some (.lst (ns.map V.int)) ∧ ns.length ≤ c + 3 ∧ (∀ x ∈ ns, SmallT x) ∧ σ' = [some (.ref a), some (.int (m : Int)), none, some (.ref p)], ?_, ?_⟩
    · repeat walk_at "s"
      intro p6 np6
      generalize hg6 : upd H5 p6 _ = H6
      have s6 : Same H5 H6 := hg6 ▸ same_new np6
      have e6 := (congrFun hg6 p6).symm.trans upd_same
      clear hg6
      refine ⟨_, _, dp_ints (SqL.new (s6 _ _ e5)), dp_ints (ns := []) (SqL.new e6), shaped_ints _, shaped_ints _, ?_⟩
      rw [eqv_ints]
      refine ⟨_, rfl, ?_⟩
      have d6 := d5.same s6
      by_cases z : xs = []
      · rw [decide_eq_true z]
        exact ⟨D, xs, .same s6, d6.mono (by omega), s6 _ _ e5, by omega, sx, rfl⟩
      · rw [decide_eq_false z]
        refine iteT ?_
        repeat walk_at "s"
        refine ⟨_, a, 4, rfl, d6, by omega, by decide, by decide, fun r7 H7 k7 d7 a7 b7 => ?_⟩
        have e7 := k7.of _ _ (s6 _ _ e5) nDa
        refine ⟨rfl, _, rfl, ?_⟩
        refine ite2 (fun z7 => ?_) (fun z7 => ?_)
        · obtain ⟨x0, r0, rfl⟩ : ∃ x0 r0, xs = x0 :: r0 := by
            cases xs with
            | nil => exact absurd rfl z
            | cons x0 r0 => exact ⟨x0, r0, rfl⟩
          repeat walk_at "s"
          try refine ⟨_, _, _, .int x0, rfl, rfl, SqL.new e7, at0, ?_⟩
          repeat walk_at "s"
          intro p8 np8
          generalize hg8 : upd H7 p8 _ = H8
          have s8 : Same H7 H8 := hg8 ▸ same_new np8
          have e8 := (congrFun hg8 p8).symm.trans upd_same
          clear hg8
          have n8 : p8 ≠ a := DeckAt.ne d7 np8
          repeat walk_at "s"
          refine ⟨_, a, 4, rfl, d7.same s8, by omega, by decide, by decide, fun r9 H9 k9 d9 a9 b9 => ?_⟩
          refine ⟨p8, r9, _, rfl, rfl, k9.of _ _ e8 n8, by omega, by omega, small (by simp; omega), ?_⟩
          intro p10 np10
          generalize hg10 : upd H9 p10 _ = H10
          have s10 : Same H9 H10 := hg10 ▸ same_new np10
          have e10 := (congrFun hg10 p10).symm.trans upd_same
          clear hg10
          have erep : (List.replicate r9.toNat [V.int x0]).flatten = (List.replicate r9.toNat x0).map V.int := by
            induction r9.toNat with
            | zero => rfl
            | succ k ih => rw [List.replicate_succ, List.flatten_cons, ih, List.replicate_succ]; rfl
          rw [erep] at e10
          have e90 := s10 _ _ (k9.of _ _ (s8 _ _ e7) nDa)
          refine ⟨D, p10, _, _, rfl, rfl, e90, e10, small (by rw [List.length_map, List.length_map, List.length_replicate]; omega), ?_⟩
          intro p11 np11
          generalize hg11 : upd H10 p11 _ = H11
          have s11 : Same H10 H11 := hg11 ▸ same_new np11
          have e11 := (congrFun hg11 p11).symm.trans upd_same
          clear hg11
          repeat walk_at "s"
          refine ⟨p11, (x0 :: r0) ++ List.replicate r9.toNat x0, (((Ky.same s6).trans k7).trans (.same s8)).trans ((k9.trans (.same s10)).trans (.same s11)), (d9.same s10).same s11, by rw [e11, List.map_append], by rw [List.length_append, List.length_replicate, lx]; omega, fun x hx => ?_, rfl⟩
          rcases List.mem_append.mp hx with h | h
          · exact sx x h
          · rw [(List.mem_replicate.mp h).2]
            exact sx x0 List.mem_cons_self
        · exact ⟨D, xs, (Ky.same s6).trans k7, d7.mono (by omega), e7, by omega, sx, rfl⟩
    · rintro σ' Hx ⟨p, ns, kx, dx, ep, ln, sn, rfl⟩
      repeat walk_at "s"
      refine ⟨p, ns, rfl, SqL.new ep, fun ms p2 hp hs np2 => ?_⟩
      have n2 : p2 ≠ a := DeckAt.ne dx np2
      have K5 := k1.trans (k5.trans kx)
      have sm : Same Hx (upd Hx p2 (.lst (ms.map V.int))) := same_new np2
      exact q p2 ms _ (K5.trans (.same sm)) (K5.free n2 np2) upd_same ((dx.same sm).mono (by omega)) (by rw [hp.length_eq]; omega) (perm_fine hp hs fun y hy => sn y hy)

theorem ok_shown {f : Addr} {fd : FuncData} (B : Bt mg) (F : Fun K "_law_shown" "_law_shown" slaw_shown f fd) : FnOk P w K mg base CX0 1 f fd ["row"] (spShown K) := by
  have nd := sclaw_shown.nd
  refine F.ok sclaw_shown (fun vs H Q E h => ?_) (fun cdv A outer s H vs Q E hr h => ?_)
  · obtain ⟨p, ns, rfl, _⟩ := h
    rfl
  · obtain ⟨p, ns, rfl, hS, sm, ln, q⟩ := h
    have hu := hr.units
    refine ⟨_, (pss_one (ps_ret (pe_ifExp (pt_cmpR (op_eqD hu) (pv 0) (pe_lst pa_nil) (nomark _)) pe_str (pe_bm PySem.F.plainAttrs_str PySem.F.slot_str_join PySem.F.type_str_join mt_join pe_str (pa_cons (pe_lc (own := [("number", 1)]) (by rfl) nd (pi_list (pv 0)) (blkOk_by (own := [("number", 1)]) (N := ["row", "number"]) (sc := defScope slaw_shown) (by decide +kernel)) (fun _ _ _ _ _ => (pg_name (i := 1) nd rfl (.inl rfl))) (fun _ _ _ _ _ => pts_nil) (fun _ _ _ _ _ => (pe_callTy call_str_int (by rfl) B.str_ (by decide +kernel) (pa_cons (pv 1) pa_nil)))) pa_nil))))), ?_⟩
    repeat walk_at "s"
    intro p1 np1
    generalize hg1 : upd H p1 _ = H1
    have s1 : Same H H1 := hg1 ▸ same_new np1
    have e1 := (congrFun hg1 p1).symm.trans upd_same
    clear hg1
    have hS1 := s1.seq hS
    refine ⟨_, _, dp_ints hS1, dp_ints (ns := []) (SqL.new e1), shaped_ints _, shaped_ints _, ?_⟩
    rw [eqv_ints]
    refine ⟨_, rfl, ?_⟩
    by_cases z : ns = []
    · rw [decide_eq_true z]
      refine iteT ?_
      have := q H1 s1
      rw [z] at this
      exact this
    · rw [decide_eq_false z]
      refine iteF ?_
      repeat walk_at "s"
      refine ⟨rfl, ?_⟩
      repeat walk_at "s"
      refine ⟨⟨_, hS1⟩, ?_⟩
      intro D nD
      refine lc_list (K := K) (a := p) (xs := ns.map V.int) (fun j H' => Same H1 H' ∧ H' D = some (.lst (((ns.take j).map Tx.toStr).map V.str))) ⟨same_new nD, upd_same⟩ (fun j Hj _ w => w.1.seq hS1) (fun j v Hj hv w => ?_) (fun H5 w => ?_)
      · obtain ⟨w1, w2⟩ := w
        obtain ⟨x, hx, rfl⟩ := int_at hv
        have lj := (List.getElem?_eq_some_iff.mp hx).1
        refine ⟨rfl, ?_⟩
        repeat walk_at "s"
        refine ⟨(sm x (List.mem_of_getElem? hx)).log, ?_⟩
        refine ⟨_, w2, smallLt (by rw [List.length_map, List.length_map, List.length_take]; omega), same_app nD w1, ?_⟩
        rw [upd_same, take_snoc hx, List.map_append, List.map_append]
        rfl
      obtain ⟨s5, e5⟩ := w
      rw [List.length_map, List.take_length] at e5
      have lsum := Tx.sum_len (ns := ns) fun n hn => (sm n hn).abs
      have lb : Tx.blankS.length = 1 := by decide +kernel
      refine ⟨Tx.blankS, D, ns.map Tx.toStr, rfl, rfl, .inl (SqL.new e5), by rw [List.length_map, lb]; omega, ?_⟩
      have er : Tx.rowText ns = Txt.join Tx.blankS (ns.map Tx.toStr) := by unfold Tx.rowText; rw [if_neg z, Tx.join_eq]
      rw [← er]
      exact q H5 (s1.trans s5)
theorem ok_show {f : Addr} {fd : FuncData} (B : Bt mg) (F : Fun K "show_row" "show_row" sshow_row f fd) : FnOk P w K mg base CX0 1 f fd ["row"] (spShown K) := by
  have nd := scshow_row.nd
  refine F.ok scshow_row (fun vs H Q E h => ?_) (fun cdv A outer s H vs Q E hr h => ?_)
  · obtain ⟨p, ns, rfl, _⟩ := h
    rfl
  · obtain ⟨p, ns, rfl, hS, sm, ln, q⟩ := h
    have hu := hr.units
    refine ⟨_, (pss_cons (ps_if (pt_not (pt_truth (pv 0) (fun _ => rfl))) (pss_one (ps_ret pe_str)) pss_nil)
      (pss_one (ps_ret (pe_bm PySem.F.plainAttrs_str PySem.F.slot_str_join PySem.F.type_str_join mt_join pe_str (pa_cons (pe_lc (own := [("number", 1)]) (by rfl) nd (pi_list (pv 0)) (blkOk_by (own := [("number", 1)]) (N := ["row", "number"]) (sc := defScope sshow_row) (by decide +kernel)) (fun _ _ _ _ _ => (pg_name (i := 1) nd rfl (.inl rfl))) (fun _ _ _ _ _ => pts_nil) (fun _ _ _ _ _ => (pe_callTy call_str_int (by rfl) B.str_ (by decide +kernel) (pa_cons (pv 1) pa_nil)))) pa_nil))))), ?_⟩
    repeat walk_at "s"
    refine ⟨_, .inl ⟨_, hS, rfl⟩, ?_⟩
    by_cases z : ns = []
    · have e : (!(ns.map V.int).isEmpty) = false := by rw [z]; rfl
      try rw [e]
      refine iteT ?_
      repeat walk_at "s"
      have := q H (.refl _)
      rw [z] at this
      exact this
    · have e : (!(ns.map V.int).isEmpty) = true := by cases ns with | nil => exact absurd rfl z | cons x r => rfl
      try rw [e]
      refine iteF ?_
      repeat walk_at "s"
      refine ⟨rfl, ?_⟩
      repeat walk_at "s"
      refine ⟨⟨_, hS⟩, ?_⟩
      intro D nD
      refine lc_list (K := K) (a := p) (xs := ns.map V.int) (fun j H' => Same H H' ∧ H' D = some (.lst (((ns.take j).map Tx.toStr).map V.str))) ⟨same_new nD, upd_same⟩ (fun j Hj _ w => w.1.seq hS) (fun j v Hj hv w => ?_) (fun H5 w => ?_)
      · obtain ⟨w1, w2⟩ := w
        obtain ⟨x, hx, rfl⟩ := int_at hv
        have lj := (List.getElem?_eq_some_iff.mp hx).1
        refine ⟨rfl, ?_⟩
        repeat walk_at "s"
        refine ⟨(sm x (List.mem_of_getElem? hx)).log, ?_⟩
        refine ⟨_, w2, smallLt (by rw [List.length_map, List.length_map, List.length_take]; omega), same_app nD w1, ?_⟩
        rw [upd_same, take_snoc hx, List.map_append, List.map_append]
        rfl
      obtain ⟨s5, e5⟩ := w
      rw [List.length_map, List.take_length] at e5
      have lsum := Tx.sum_len (ns := ns) fun n hn => (sm n hn).abs
      have lb : Tx.blankS.length = 1 := by decide +kernel
      refine ⟨Tx.blankS, D, ns.map Tx.toStr, rfl, rfl, .inl (SqL.new e5), by rw [List.length_map, lb]; omega, ?_⟩
      have er : Tx.rowText ns = Txt.join Tx.blankS (ns.map Tx.toStr) := by unfold Tx.rowText; rw [if_neg z, Tx.join_eq]
      rw [← er]
      exact q H5 s5

theorem ok_is_whole {f : Addr} {fd : FuncData} (B : Bt mg) (F : Fun K "is_whole" "is_whole" sis_whole f fd) : FnOk P w K mg base CX0 1 f fd ["thing"] (spIsWhole K) := by
  have nd := scis_whole.nd
  refine F.ok scis_whole (fun vs H Q E h => ?_) (fun cdv A outer s H vs Q E hr h => ?_)
  · obtain ⟨x, rfl, _⟩ := h
    rfl
  · obtain ⟨x, rfl, h⟩ := h
    refine ⟨_, (pss_one (ps_ret (pe_and (pe_callB call_isi (by rfl) B.isinstance_ (by decide +kernel) (pa_cons (pv 0) (pa_cons (pe_bltn (v := .ty "int") (by rfl) B.int_ (by decide +kernel) rfl) pa_nil))) (pe_one (pe_not (pe_callB call_isi (by rfl) B.isinstance_ (by decide +kernel) (pa_cons (pv 0) (pa_cons (pe_bltn (v := .ty "bool") (by rfl) B.bool_ (by decide +kernel) rfl) pa_nil)))))))), ?_⟩
    walk_at "s"
    rcases h with ⟨⟨n, rfl⟩, q⟩ | ⟨⟨T, hT, ty⟩, q⟩
    · refine ⟨_, _, _, _, true, rfl, .ty "int", .base (.int n), kit_ty (by decide +kernel), ?_⟩
      repeat walk_at "s"
      refine ⟨_, _, _, _, false, rfl, .ty "bool", .base (.int n), kit_ty (by decide +kernel), ?_⟩
      exact ⟨_, rfl, q⟩
    · simp only [kinds, List.mem_cons, List.not_mem_nil, or_false] at hT
      rcases hT with rfl | rfl | rfl | rfl | rfl | rfl
      · refine ⟨_, _, _, _, true, rfl, .ty "int", ty, kit_ty (by decide +kernel), ?_⟩
        repeat walk_at "s"
        refine ⟨_, _, _, _, true, rfl, .ty "bool", ty, kit_ty (by decide +kernel), ?_⟩
        exact ⟨_, rfl, q⟩
      all_goals
        refine ⟨_, _, _, _, false, rfl, .ty "int", ty, kit_ty (by decide +kernel), ?_⟩
        exact ⟨_, rfl, q⟩
theorem ok_is_row {f : Addr} {fd : FuncData} (B : Bt mg) (F : Fun K "is_row" "is_row" sis_row f fd) (cis_whole : Cal P w K mg base 1 "is_whole" ["thing"] (spIsWhole K)) : FnOk P w K mg base CX0 2 f fd ["thing"] (spIsRow K) := by
  have nd := scis_row.nd
  refine F.ok scis_row (fun vs H Q E h => ?_) (fun cdv A outer s H vs Q E hr h => ?_)
  · obtain ⟨x, rfl, _⟩ := h
    rfl
  · obtain ⟨x, rfl, h⟩ := h
    refine ⟨_, (pss_cons (ps_if (pt_not (pt_val (pe_callB call_isi (by rfl) B.isinstance_ (by decide +kernel) (pa_cons (pv 0) (pa_cons (pe_bltn (v := .ty "list") (by rfl) B.list_ (by decide +kernel) rfl) pa_nil))))) (pss_one (ps_ret pe_bl)) pss_nil)
      (pss_cons (ps_for PassesOwn.never rfl (pi_enum (by rfl) B.enumerate_ (pa_cons (pv 0) pa_nil)) (pg_tup rfl (pgs_cons (pg_name (i := 1) nd rfl (.inl rfl)) (pgs_cons (pg_name (i := 2) nd rfl (.inl rfl)) pgs_nil))) (pss_cons (ps_if (pt_not (pt_val (pe_own cis_whole (hr.mono (by decide)) (by rfl) (pa_cons (pv 2) pa_nil)))) (pss_one (ps_ret pe_bl)) pss_nil)
      (pss_one (ps_if (PW.pt (pw_and (pt_cmpR op_gt (pv 1) pe_int (nomark _)) (pw_and1 (pt_cmpR op_lt (pv 2) (pe_ix ix_list (pv 0) (pe_op op_sub (pv 1) pe_int) (fun _ _ => rfl)) (nomark _))))) (pss_one (ps_ret pe_bl)) pss_nil))))
      (pss_one (ps_ret pe_bl)))), ?_⟩
    walk_at "s"
    rcases h with ⟨p, xs, rfl, hS, hk, q⟩ | ⟨T, hT, ty, q⟩
    · refine ⟨_, _, _, _, true, rfl, .ty "list", tyList hS, kit_ty (by decide +kernel), ?_⟩
      repeat walk_at "s"
      refine ⟨p, xs, rfl, hS, ?_⟩
      refine for_enum (K := K) (a := p) (xs := xs) (fun i σ H' => Same H H' ∧ (∃ v1 v2 : Option V, σ = [some (.ref p), v1, v2]) ∧ ∃ ns : List Int, xs.take i = ns.map V.int ∧ ns.Pairwise (· ≤ ·)) ⟨Same.refl _, ⟨none, none, rfl⟩, [], rfl, List.Pairwise.nil⟩ (fun i σ Hi _ w => w.1.seq hS) (fun i x σ Hi T hx w nT => ?_) (fun σ Hi w => ?_)
      · obtain ⟨s1, ⟨v1, v2, rfl⟩, ns, en, sn⟩ := w
        have sT : Same Hi (upd Hi T (.tup [.int (i : Nat), x])) := same_new nT
        have hi : i < xs.length := (List.getElem?_eq_some_iff.mp hx).1
        have ln : ns.length = i := by
          have := congrArg List.length en
          rw [List.length_take, List.length_map] at this
          omega
        refine ⟨T, _, rfl, .inl (.inl upd_same), rfl, _, _, rfl, _, _, rfl, rfl, ?_⟩
        generalize upd Hi T (.tup [.int (i : Nat), x]) = H2 at sT ⊢
        have s2 := s1.trans sT
        repeat walk_at "s"
        rcases hk x (List.mem_of_getElem? hx) with ⟨n, rfl⟩ | hno
        · refine .inl ⟨⟨n, rfl⟩, ?_⟩
          repeat walk_at "s"
          have snoc : xs.take (i + 1) = (ns ++ [n]).map V.int := by
            rw [take_snoc hx, en, List.map_append]
            rfl
          refine ite2 (fun z => ?_) (fun z => ?_)
          · have z1 : (0 : Int) < (i : Int) := of_decide_eq_true z
            obtain ⟨m, hm⟩ : ∃ m, ns[i - 1]? = some m := ⟨_, List.getElem?_eq_getElem (by omega)⟩
            have hm2 : xs[i - 1]? = some (.int m) := by
              have h1 : (xs.take i)[i - 1]? = some (.int m) := by rw [en, List.getElem?_map, hm]; rfl
              rw [List.getElem?_take] at h1
              rw [if_pos (by omega)] at h1
              exact h1
            have last : ns = ns.take (i - 1) ++ [m] := by
              have h1 := take_snoc hm
              rw [show i - 1 + 1 = ns.length from by omega, take_all] at h1
              exact h1
            repeat walk_at "s"
            refine ⟨_, _, _, .int m, rfl, rfl, s2.seq hS, ?_, ?_⟩
            · show atI xs ((i : Int) - 1) = _
              rw [show (i : Int) - 1 = ((i - 1 : Nat) : Int) from by omega]
              exact atI_nat hm2
            repeat walk_at "s"
            refine ite2 (fun u => ?_) (fun u => ?_)
            · have u1 : n < m := of_decide_eq_true u
              refine q false H2 ⟨fun h => (by cases h), fun h => ?_⟩ s2
              obtain ⟨ms, em, sm⟩ := h
              have a1 : ms[i - 1]? = some m := by
                rw [em, List.getElem?_map] at hm2
                cases e : ms[i - 1]? with
                | none => rw [e] at hm2; cases hm2
                | some k => rw [e] at hm2; rw [V.int.inj (Option.some.inj hm2)]
              have a2 : ms[i]? = some n := by
                rw [em, List.getElem?_map] at hx
                cases e : ms[i]? with
                | none => rw [e] at hx; cases hx
                | some k => rw [e] at hx; rw [V.int.inj (Option.some.inj hx)]
              have := sorted_le sm a1 a2 (by omega)
              omega
            · have u1 : ¬ n < m := fun k => u (decide_eq_true k)
              refine ⟨s2, ⟨_, _, rfl⟩, ns ++ [n], snoc, List.pairwise_append.mpr ⟨sn, List.pairwise_singleton _ _, fun y hy y2 hy2 => ?_⟩⟩
              rw [List.mem_singleton.mp hy2]
              obtain ⟨j, hj⟩ := List.mem_iff_getElem?.mp hy
              have h1 := (List.getElem?_eq_some_iff.mp hj).1
              have := sorted_le sn hj hm (by omega)
              omega
          · have z1 : ¬ (0 : Int) < (i : Int) := fun k => z (decide_eq_true k)
            have z2 : ns = [] := List.length_eq_zero_iff.mp (by omega)
            refine ⟨s2, ⟨_, _, rfl⟩, ns ++ [n], snoc, ?_⟩
            rw [z2]
            exact List.pairwise_singleton _ _
        · refine .inr ⟨hno.up s2, ?_⟩
          repeat walk_at "s"
          refine q false H2 ⟨fun h => (by cases h), fun h => ?_⟩ s2
          obtain ⟨ms, em, sm⟩ := h
          rw [em, List.getElem?_map] at hx
          cases e : ms[i]? with
          | none => rw [e] at hx; cases hx
          | some k => rw [e] at hx; exact absurd (Option.some.inj hx).symm (hno.ne k)
      · obtain ⟨s1, ⟨v1, v2, rfl⟩, ns, en, sn⟩ := w
        rw [take_all] at en
        exact q true Hi ⟨fun _ => ⟨ns, en, sn⟩, fun _ => rfl⟩ s1
    · simp only [List.mem_cons, List.not_mem_nil, or_false] at hT
      rcases hT with rfl | rfl | rfl | rfl | rfl | rfl
      all_goals
        refine ⟨_, _, _, _, false, rfl, .ty "list", ty, kit_ty (by decide +kernel), ?_⟩
        repeat walk_at "s"
        exact q

theorem ok_writ {f : Addr} {fd : FuncData} (B : Bt mg) (F : Fun K "written_number" "written_number" swritten_number f fd) : FnOk P w K mg base CX0 1 f fd ["word", "most"] spWrit := by
  have nd := scwritten_number.nd
  refine F.ok scwritten_number (fun vs H Q E h => ?_) (fun cdv A outer s H vs Q E hr h => ?_)
  · obtain ⟨x, m, rfl, _⟩ := h
    rfl
  · obtain ⟨x, m, rfl, m0, m1, lx, q⟩ := h
    refine ⟨_, (pss_cons (ps_set (i := 2) nd rfl (.inl rfl) (pe_bm PySem.F.plainAttrs_str PySem.F.slot_str_removeprefix PySem.F.type_str_removeprefix mt_removeprefix (pv 0) (pa_cons pe_str pa_nil)))
      (pss_cons (ps_if (PW.pt (pw_or (pt_not (PW.pt (pw_and (pt_val (pe_bm0 PySem.F.plainAttrs_str PySem.F.slot_str_isascii PySem.F.type_str_isascii mt_isascii (pv 2))) (pw_and1 (pt_val (pe_bm0 PySem.F.plainAttrs_str PySem.F.slot_str_isdigit PySem.F.type_str_isdigit mt_isdigit (pv 2))))))) (pw_or1 (pt_cmpR op_gt (pe_callB call_len_str (by rfl) B.len_ (by decide +kernel) (pa_cons (pv 2) pa_nil)) (pv 1) (nomark _))))) (pss_one (ps_ret pe_non)) pss_nil)
      (pss_cons (ps_set (i := 3) nd rfl (.inl rfl) (pe_callTy call_int_str (by rfl) B.int_ (by decide +kernel) (pa_cons (pv 0) pa_nil)))
      (pss_cons (ps_if (pt_cmpR op_ne (pe_callTy call_str_int (by rfl) B.str_ (by decide +kernel) (pa_cons (pv 3) pa_nil)) (pv 0) (nomark _)) (pss_one (ps_ret pe_non)) pss_nil)
      (pss_one (ps_ret (pv 3))))))), ?_⟩
    repeat walk_at "s"
    refine ⟨rfl, ?_⟩
    repeat walk_at "s"
    refine ⟨small lx, ?_⟩
    have lf := Tx.figs_len x
    have lf2 := Tx.len_figs x
    repeat walk_at "s"
    refine ⟨rfl, ?_⟩
    refine ⟨_, rfl, rfl, trivial, ?_⟩
    have no : Tx.good x = false → Q .non H := fun h => by
      have e : Tx.writ x m = none := by
        unfold Tx.writ
        rw [h]
        rfl
      rw [e] at q
      exact q
    cases h1 : Txt.isascii (Tx.figs x)
    · repeat walk_at "s"
      exact no (by unfold Tx.good; rw [h1]; rfl)
    · repeat walk_at "s"
      refine ⟨rfl, ?_⟩
      refine ⟨_, rfl, rfl, trivial, ?_⟩
      cases h2 : Txt.isdigit (Tx.figs x)
      · repeat walk_at "s"
        exact no (by unfold Tx.good; rw [h1, h2]; rfl)
      · have hg : Tx.good x = true := by unfold Tx.good; rw [h1, h2]; rfl
        repeat walk_at "s"
        refine ⟨small (show (Tx.figs x).length ≤ 100000 by omega), ?_⟩
        repeat walk_at "s"
        by_cases c : m < ((Tx.figs x).length : Int)
        · rw [decide_eq_true c]
          refine iteT ?_
          repeat walk_at "s"
          have e : Tx.writ x m = none := by
            unfold Tx.writ
            rw [if_neg (fun h => by have := h.2; omega)]
          rw [e] at q
          exact q
        · rw [decide_eq_false c]
          refine iteF ?_
          repeat walk_at "s"
          refine ⟨x, Tx.valOf x, rfl, Tx.good_reads hg (by omega), by omega, ?_⟩
          repeat walk_at "s"
          refine ⟨Tx.valOf_log hg (by omega), ?_⟩
          repeat walk_at "s"
          refine ⟨rfl, _, rfl, ?_⟩
          by_cases c2 : Tx.toStr (Tx.valOf x) = x
          · rw [decide_eq_true (show V.str (Tx.toStr (Tx.valOf x)) = V.str x by rw [c2])]
            refine iteF ?_
            repeat walk_at "s"
            have e : Tx.writ x m = some (Tx.valOf x) := by
              unfold Tx.writ
              rw [if_pos ⟨hg, by omega⟩, if_pos c2]
            rw [e] at q
            exact q
          · rw [decide_eq_false (show ¬ V.str (Tx.toStr (Tx.valOf x)) = V.str x from fun h => c2 (V.str.inj h))]
            refine iteT ?_
            repeat walk_at "s"
            have e : Tx.writ x m = none := by
              unfold Tx.writ
              rw [if_pos ⟨hg, by omega⟩, if_neg c2]
            rw [e] at q
            exact q
theorem ok_read {f : Addr} {fd : FuncData} {tk : Tok} (B : Bt mg) (F : Fun K "read_row" "read_row" sread_row f fd) (figs : mg "FIGURES" = some (.int 16 tk)) (cis_row : Cal P w K mg base 2 "is_row" ["thing"] (spIsRow K)) (cwritten_number : Cal P w K mg base 1 "written_number" ["word", "most"] spWrit) : FnOk P w K mg base CX0 3 f fd ["text"] (spRead K) := by
  have nd := scread_row.nd
  refine F.ok scread_row (fun vs H Q E h => ?_) (fun cdv A outer s H vs Q E hr h => ?_)
  · obtain ⟨ns, rfl, _⟩ := h
    rfl
  · obtain ⟨ns, rfl, sm, sn, ln, q⟩ := h
    refine ⟨_, (pss_cons (ps_if (pt_not (pt_val (pe_callB call_isi (by rfl) B.isinstance_ (by decide +kernel) (pa_cons (pv 0) (pa_cons (pe_bltn (v := .ty "str") (by rfl) B.str_ (by decide +kernel) rfl) pa_nil))))) (pss_one ps_never) pss_nil)
      (pss_cons (ps_if (pt_cmpR op_eq (pv 0) pe_str (nomark _)) (pss_one (ps_ret (pe_lst pa_nil))) pss_nil)
      (pss_cons (ps_setLc (i := 2) (own := [("word", 1)]) (by rfl) nd rfl rfl (sw_true rfl rfl rfl (by decide +kernel)) (pi_list (pe_bm PySem.F.plainAttrs_str PySem.F.slot_str_split PySem.F.type_str_split mt_split (pv 0) (pa_cons pe_str pa_nil))) (blkOk_by (own := [("word", 1)]) (N := ["text", "word", "row"]) (sc := defScope sread_row) (by decide +kernel)) (fun _ _ _ _ _ => (pg_name (i := 1) nd rfl (.inl rfl))) (fun _ _ _ _ _ => pts_nil) (fun _ _ _ _ _ => (pe_own cwritten_number (hr.mono (by decide)) (by rfl) (pa_cons (pv 1) (pa_cons (pe_glob (v := .int 16) rfl figs ⟨_, rfl⟩) pa_nil)))))
      (pss_cons (ps_if (pt_not (pt_val (pe_own cis_row (hr.mono (by decide)) (by rfl) (pa_cons (pv 2) pa_nil)))) (pss_one ps_never) pss_nil)
      (pss_one (ps_ret (pv 2))))))), ?_⟩
    repeat walk_at "s"
    refine ⟨_, _, _, _, true, rfl, .ty "str", .base (.str _), kit_ty (by decide +kernel), ?_⟩
    repeat walk_at "s"
    refine ⟨rfl, _, rfl, ?_⟩
    by_cases z : ns = []
    · have e : Tx.rowText ns = Tx.minus := by rw [z]; rfl
      rw [decide_eq_true (show V.str (Tx.rowText ns) = V.str Tx.minus by rw [e])]
      refine iteT ?_
      repeat walk_at "s"
      intro p1 np1
      generalize hg1 : upd H p1 _ = H1
      have s1 : Same H H1 := hg1 ▸ same_new np1
      have e1 := (congrFun hg1 p1).symm.trans upd_same
      clear hg1
      exact q p1 H1 s1 np1 (by rw [e1, z]; rfl)
    · rw [decide_eq_false (show ¬ V.str (Tx.rowText ns) = V.str Tx.minus from fun h => Tx.row_minus z (V.str.inj h))]
      refine iteF ?_
      repeat walk_at "s"
      refine ⟨rfl, ?_⟩
      repeat walk_at "s"
      have rl := Tx.row_len (ns := ns) fun n hn => (sm n hn).abs
      refine ⟨small (by omega), ?_⟩
      intro p1 np1
      generalize hg1 : upd H p1 _ = H1
      have s1 : Same H H1 := hg1 ▸ same_new np1
      have e1 := (congrFun hg1 p1).symm.trans upd_same
      clear hg1
      have es : Txt.split (Tx.rowText ns) (" " : Str) = ns.map Tx.toStr := Tx.row_split z
      rw [es] at e1
      refine ⟨p1, rfl, ⟨_, SqL.new e1⟩, ?_⟩
      intro D nD
      refine lc_list (K := K) (a := p1) (xs := (ns.map Tx.toStr).map V.str) (fun j H' => Same H1 H' ∧ H' D = some (.lst ((ns.take j).map V.int))) ⟨same_new nD, upd_same⟩ (fun j Hj _ w => w.1.seq (SqL.new e1)) (fun j v Hj hv w => ?_) (fun H5 w => ?_)
      · obtain ⟨w1, w2⟩ := w
        obtain ⟨x, hx, rfl⟩ : ∃ x, ns[j]? = some x ∧ v = .str (Tx.toStr x) := by
          rw [List.getElem?_map, List.getElem?_map] at hv
          cases h : ns[j]? with
          | none => rw [h] at hv; cases hv
          | some x => rw [h] at hv; exact ⟨x, rfl, (Option.some.inj hv).symm⟩
        have lj := (List.getElem?_eq_some_iff.mp hx).1
        have ab := (sm x (List.mem_of_getElem? hx)).abs
        have lt := Tx.to_len (n := x) (k := 16) (by decide) ab
        have ew : Tx.writ (Tx.toStr x) 16 = some x := Tx.writ_int (k := 16) (by decide) ab
        refine ⟨rfl, ?_⟩
        repeat walk_at "s"
        refine ⟨Tx.toStr x, 16, rfl, by decide, by decide, by omega, ?_⟩
        rw [ew]
        refine ⟨_, w2, smallLt (by rw [List.length_map, List.length_take]; omega), same_app nD w1, ?_⟩
        rw [upd_same, take_snoc hx, List.map_append]
        rfl
      obtain ⟨s5, e5⟩ := w
      rw [List.length_map, List.length_map, List.take_length] at e5
      repeat walk_at "s"
      refine .inl ⟨D, _, rfl, SqL.new e5, fun y hy => .inl ?_, fun b H6 hb s6 => ?_⟩
      · obtain ⟨n, _, rfl⟩ := List.mem_map.mp hy
        exact ⟨n, rfl⟩
      obtain rfl : b = true := hb.mpr ((IsRow.map ns).mpr sn)
      repeat walk_at "s"
      exact q D H6 ((s1.trans s5).trans s6) (s1.free nD) (s6 _ _ e5)

theorem ok_law53 {f : Addr} {fd : FuncData} (B : Bt mg) (F : Fun K "law" "law" slaw f fd) (claw_take : Cal P w K mg base 1 "_law_take" ["deck", "many"] spTk) (claw_deck : Cal P w K mg base 1 "_law_deck" ["cell", "k"] spDk) (claw_number : Cal P w K mg base 2 "_law_number" ["deck"] spNumK) (claw_row : Cal P w K mg base 3 "_law_row" ["deck", "most"] spRowK)
    (claw_shown : Cal P w K mg base 1 "_law_shown" ["row"] (spShown K)) (cshow_row : Cal P w K mg base 1 "show_row" ["row"] (spShown K)) (cread_row : Cal P w K mg base 3 "read_row" ["text"] (spRead K)) : Gd.FnG P w K mg base 4 f fd ["script"] (spLaw K) := by
  have nd := sclaw.nd
  refine Gd.okG F sclaw (fun vs H Q E h => ?_) (fun cdv A outer s H vs Q E ug hr h => ?_)
  · obtain ⟨a, ns, rfl, _⟩ := h
    rfl
  · obtain ⟨sc, zs, rfl, hS, hlen, q⟩ := h
    have hu := hr.units
    refine ⟨_, (pss_cons (ps_set (i := 1) nd rfl (.inl rfl) (pe_lst pa_nil))
      (pss_cons (ps_for PassesOwn.never rfl (pi_list (pe_op op_cat (pe_slice sl_list (pv 0) po_none (po_some pe_int)) (pe_lst (pa_cons pe_int pa_nil)))) (pg_name (i := 2) nd rfl (.inl rfl)) (pss_cons (ps_set (i := 3) nd rfl (.inr rfl) (pe_own claw_deck (hr.mono (by decide)) (by rfl) (pa_cons (pv 2) (pa_cons pe_int pa_nil))))
      (pss_cons (ps_set (i := 4) nd rfl (.inl rfl) (pe_own claw_row (hr.mono (by decide)) (by rfl) (pa_cons (pv 3) (pa_cons pe_int pa_nil))))
      (Evl.pss_cut (ps_if (pt_cmpR op_eq (pe_own claw_take (hr.mono (by decide)) (by rfl) (pa_cons (pv 3) (pa_cons pe_int pa_nil))) pe_int (nomark _)) (pss_one (ps_set (i := 4) nd rfl (.inl rfl) (pe_callB cr_sortedI (by rfl) B.sorted_ (by decide +kernel) (pa_cons (pe_lc (own := [("k", 5)]) (by rfl) nd (pi_range1 (by rfl) B.range_ (pa_cons pe_int pa_nil)) (blkOk_by (own := [("k", 5)]) (N := ["script", "held", "cell", "deck", "row", "k", "handed", "told", "text", "found"]) (sc := defScope slaw) (by decide +kernel)) (fun _ _ _ _ _ => (pg_name (i := 5) nd rfl (.inl rfl))) (fun _ _ _ _ _ => pts_nil) (fun _ _ _ _ _ => (pe_own claw_number (hr.mono (by decide)) (by rfl) (pa_cons (pv 3) pa_nil)))) pa_nil)))) pss_nil)
      (pss_cons (ps_set (i := 6) nd rfl (.inl rfl) (pe_callTy call_list_of (by rfl) B.list_ (by decide +kernel) (pa_cons (pv 4) pa_nil)))
      (pss_cons (ps_set (i := 7) nd rfl (.inl rfl) (pe_own cshow_row (hr.mono (by decide)) (by rfl) (pa_cons (pv 6) pa_nil)))
      (pss_cons (ps_if (PW.pt (pw_or (pt_not (pt_val (pe_callB call_isi (by rfl) B.isinstance_ (by decide +kernel) (pa_cons (pv 7) (pa_cons (pe_bltn (v := .ty "str") (by rfl) B.str_ (by decide +kernel) rfl) pa_nil))))) (pw_or (pt_cmpR op_ne (pv 7) (pe_own claw_shown (hr.mono (by decide)) (by rfl) (pa_cons (pv 4) pa_nil)) (nomark _)) (pw_or1 (pt_cmpR (op_neD hu) (pv 6) (pv 4) (nomark _)))))) (pss_one (ps_ret pe_bl)) pss_nil)
      (pss_one (ps_expr (pe_bm PySem.F.plainAttrs_list PySem.F.slot_list_append PySem.F.type_list_append mt_append (pv 1) (pa_cons (pe_tup (pa_cons (pv 7) (pa_cons (pv 4) pa_nil))) pa_nil)))))))))))
      (pss_cons (ps_for PassesOwn.never rfl (pi_list (pv 1)) (pg_tup rfl (pgs_cons (pg_name (i := 8) nd rfl (.inl rfl)) (pgs_cons (pg_name (i := 4) nd rfl (.inl rfl)) pgs_nil))) (pss_cons (ps_set (i := 9) nd rfl (.inl rfl) (pe_own cread_row (hr.mono (by decide)) (by rfl) (pa_cons (pv 8) pa_nil)))
      (pss_cons (ps_if (pt_cmpR op_ne (pe_callB (Gd.call_repr ug hr) (by rfl) B.repr_ (by decide +kernel) (pa_cons (pv 9) pa_nil)) (pe_callB (Gd.call_repr ug hr) (by rfl) B.repr_ (by decide +kernel) (pa_cons (pv 4) pa_nil)) (nomark _)) (pss_one (ps_ret pe_bl)) pss_nil)
      (pss_cons (ps_expr (pe_bm PySem.F.plainAttrs_list PySem.F.slot_list_append PySem.F.type_list_append mt_append (pv 9) (pa_cons pe_int pa_nil)))
      (pss_one (ps_if (pt_cmpR op_ne (pe_callB (Gd.call_repr ug hr) (by rfl) B.repr_ (by decide +kernel) (pa_cons (pe_own cread_row (hr.mono (by decide)) (by rfl) (pa_cons (pv 8) pa_nil)) pa_nil)) (pe_callB (Gd.call_repr ug hr) (by rfl) B.repr_ (by decide +kernel) (pa_cons (pv 4) pa_nil)) (nomark _)) (pss_one (ps_ret pe_bl)) pss_nil))))))
      (pss_one (ps_ret pe_bl))))), ?_⟩
    repeat walk_at "s"
    intro p1 np1
    generalize hg1 : upd H p1 _ = H1
    have s1 : Same H H1 := hg1 ▸ same_new np1
    have e1 := (congrFun hg1 p1).symm.trans upd_same
    clear hg1
    repeat walk_at "s"
    refine ⟨sc, zs.map V.int, rfl, s1.seq hS, ?_⟩
    intro p2 np2
    generalize hg2 : upd H1 p2 _ = H2
    have s2 : Same H1 H2 := hg2 ▸ same_new np2
    have e2 := (congrFun hg2 p2).symm.trans upd_same
    clear hg2
    obtain ⟨u1, eu1, lu1, _⟩ := cut_map (ns := zs) none (some 30)
    rw [eu1] at e2
    repeat walk_at "s"
    intro p3 np3
    generalize hg3 : upd H2 p3 _ = H3
    have s3 : Same H2 H3 := hg3 ▸ same_new np3
    have e3 := (congrFun hg3 p3).symm.trans upd_same
    clear hg3
    refine ⟨p2, p3, _, _, rfl, rfl, s3 _ _ e2, e3, small (by rw [List.length_map]; simp; omega), ?_⟩
    intro p4 np4
    generalize hg4 : upd H3 p4 _ = H4
    have s4 : Same H3 H4 := hg4 ▸ same_new np4
    have e4 := (congrFun hg4 p4).symm.trans upd_same
    clear hg4
    obtain ⟨cs, hcs, lcs⟩ : ∃ cs : List Int, u1.map V.int ++ [V.int 0] = cs.map V.int ∧ cs.length ≤ 64 := ⟨u1 ++ [0], by simp, by simp; omega⟩
    rw [hcs] at e4
    have e14 := s4 _ _ (s3 _ _ (s2 _ _ e1))
    have n41 : p4 ≠ p1 := fun z => by rw [z, s3 _ _ (s2 _ _ e1)] at np4; cases np4
    repeat walk_at "s"
    refine ⟨⟨_, SqL.new e4⟩, ?_⟩
    refine for_list (K := K) (a := p4) (xs := cs.map V.int) (fun i σ H' => Kp p1 H4 H' ∧ (∃ es : List Addr, H' p1 = some (.lst (es.map V.ref)) ∧ es.length ≤ i ∧ ∀ e ∈ es, EntT p1 H' e) ∧ ∃ v2 v3 v4 v5 v6 v7 : Option V, σ = [some (.ref sc), some (.ref p1), v2, v3, v4, v5, v6, v7, none, none])
      ⟨Kp.refl, ⟨[], e14, Nat.le_refl _, fun _ h => nomatch h⟩, _, _, _, _, _, _, rfl⟩ (fun i σ Hi _ w => SqL.new (w.1 _ _ e4 n41)) (fun i x σ H5 hx w => ?_) (fun σ H5 w => ?_)
    · obtain ⟨k5, ⟨es, hes, les, hent⟩, v2, v3, v4, v5, v6, v7, rfl⟩ := w
      obtain ⟨c, hc, rfl⟩ := int_at hx
      have il := (List.getElem?_eq_some_iff.mp hc).1
      repeat walk_at "s"
      refine ⟨c, 3, rfl, by decide, by decide, fun a H6 s6 na6 d6 => ?_⟩
      repeat walk_at "s"
      refine ⟨10, a, 40, rfl, d6, by decide, by decide, fun p ns H7 k7 np7 e7 d7 l7 f7 => ?_⟩
      have npa : p ≠ a := DeckAt.ne d6 np7
      have np5 : H5 p = none := s6.free np7
      have S7 : Same H5 H7 := fun b o h => k7.of b o (s6 _ _ h) (ne_of_none h na6)
      repeat walk_at "s"
      refine ⟨fun σ' H' => ∃ (p : Addr) (ns : List Int) (v5 : Option V), Same H5 H' ∧ H5 p = none ∧ H' p = some (.lst (ns.map V.int)) ∧ ns.length ≤ 300 ∧ Fine ns ∧ σ' = [some (.ref sc), some (.ref p1), some (.int c), some (.ref a), some (.ref p), v5, v6, v7, none, none], ?_, ?_⟩
      · repeat walk_at "s"
        refine ⟨_, a, 8, rfl, d7, by omega, by decide, by decide, fun r8 H8 k8 d8 a8 b8 => ?_⟩
        have S8 : Same H5 H8 := fun b o h => k8.of b o (S7 _ _ h) (ne_of_none h na6)
        have e8 := k8.of _ _ e7 npa
        refine ⟨rfl, _, rfl, ?_⟩
        refine ite2 (fun z => ?_) (fun z => ?_)
        · repeat walk_at "s"
          intro D nD
          have nDa : D ≠ a := DeckAt.ne d8 nD
          refine lc_range (lo := 0) (n := 300) (fun i H' => ∃ xs : List Int, xs.length = i ∧ (∀ x ∈ xs, SmallT x) ∧ Ky a H8 H' ∧ DeckAt (200 + 3 * i) H' a ∧ H' D = some (.lst (xs.map V.int))) ⟨[], rfl, (fun _ h => nomatch h), .same (same_new nD), (d8.mono (by omega)).same (same_new nD), upd_same⟩ (fun i Hi hi w => ?_) (fun H9 w => ?_)
          · obtain ⟨xs, lx, sx, ki, di', ei⟩ := w
            refine ⟨rfl, ?_⟩
            repeat walk_at "s"
            have hi : i < 300 := hi
            refine ⟨200 + 3 * i, a, rfl, di', by omega, fun v H4 k4 d4 sv => ?_⟩
            have ei4 := k4.of _ _ ei nDa
            have kp : Ky a H8 (upd H4 D (.lst (xs.map V.int ++ [V.int v]))) := ⟨fun b o e nb => by
              rw [upd_ne (ne_of_none e nD)]
              exact (ki.trans k4).of b o e nb⟩
            have dd : DeckAt (200 + 3 * (i + 1)) (upd H4 D (.lst (xs.map V.int ++ [V.int v]))) a := by
              obtain ⟨x, g, c, e, r⟩ := d4
              exact ⟨x, g, c, by rw [upd_ne nDa.symm]; exact e, by omega, by omega⟩
            exact ⟨_, ei4, smallLt (by rw [List.length_map]; omega), xs ++ [v], by rw [List.length_append, lx]; rfl, fun y hy => (List.mem_append.mp hy).elim (sx y) (fun h => by rw [List.mem_singleton.mp h]; exact sv), kp, dd, by rw [upd_same, List.map_append]; rfl⟩
          obtain ⟨xs, lx, sx, k9, d9, e9⟩ := w
          have lx : xs.length = 300 := lx
          refine ⟨D, xs, rfl, SqL.new e9, fun ms p2 hp hs np2 => ?_⟩
          have S9 : Same H5 H9 := fun b o h => k9.of b o (S8 _ _ h) (ne_of_none h na6)
          repeat walk_at "s"
          exact ⟨p2, ms, _, S9.trans (same_new np2), S9.free np2, upd_same, by rw [hp.length_eq]; omega, perm_fine hp hs fun y hy => sx y hy, rfl⟩
        · exact ⟨p, ns, _, S8, np5, e8, by omega, f7, rfl⟩
      · rintro σ' H9 ⟨p, ns, v5, S9, np, ep, ln, fn, rfl⟩
        repeat walk_at "s"
        refine ⟨_, _, rfl, .inl (SqL.new ep), ?_⟩
        intro p10 np10
        generalize hg10 : upd H9 p10 _ = H10
        have s10 : Same H9 H10 := hg10 ▸ same_new np10
        have e10 := (congrFun hg10 p10).symm.trans upd_same
        clear hg10
        have ep10 := s10 _ _ ep
        repeat walk_at "s"
        refine ⟨p10, ns, rfl, SqL.new e10, fn.smallT, by omega, fun H11 s11 => ?_⟩
        repeat walk_at "s"
        refine ⟨_, _, _, _, true, rfl, .ty "str", .base (.str _), kit_ty (by decide +kernel), ?_⟩
        repeat walk_at "s"
        refine ⟨p, ns, rfl, SqL.new (s11 _ _ ep10), fn.smallT, by omega, fun H12 s12 => ?_⟩
        repeat walk_at "s"
        refine ne_same rfl ?_
        refine ⟨_, rfl, ?_⟩
        refine iteF ?_
        have S12 : Same H10 H12 := s11.trans s12
        repeat walk_at "s"
        refine ⟨_, _, dp_ints (SqL.new (S12 _ _ e10)), dp_ints (SqL.new (S12 _ _ ep10)), shaped_ints _, shaped_ints _, ?_⟩
        rw [eqv_ints, decide_eq_true rfl]
        refine ⟨_, rfl, ?_⟩
        refine iteF ?_
        have SS : Same H5 H12 := (S9.trans s10).trans S12
        have Eh := SS _ _ hes
        repeat walk_at "s"
        refine ⟨.inl ⟨rfl, _, SqL.new Eh⟩, ?_⟩
        repeat walk_at "s"
        intro p13 np13
        generalize hg13 : upd H12 p13 _ = H13
        have s13 : Same H12 H13 := hg13 ▸ same_new np13
        have e13 := (congrFun hg13 p13).symm.trans upd_same
        clear hg13
        have S13 := SS.trans s13
        have Eh13 := s13 _ _ Eh
        refine ⟨p1, es.map V.ref, .ref p13, rfl, rfl, Eh13, smallLt (by rw [List.length_map]; omega), ?_⟩
        have n13 : p13 ≠ p1 := fun z => by rw [z, Eh] at np13; cases np13
        have npp : p ≠ p1 := fun z => by rw [z, hes] at np; cases np
        have e14' : (upd H13 p1 (.lst (es.map V.ref ++ [V.ref p13]))) p1 = some (.lst ((es ++ [p13]).map V.ref)) := by rw [upd_same, List.map_append]; rfl
        have k14 : Kp p1 H13 (upd H13 p1 (.lst (es.map V.ref ++ [V.ref p13]))) := Kp.set
        generalize upd H13 p1 (.lst (es.map V.ref ++ [V.ref p13])) = H14 at e14' k14 ⊢
        have K14 : Kp p1 H5 H14 := (Kp.same S13).trans k14
        refine ⟨k5.trans K14, ⟨es ++ [p13], e14', by rw [List.length_append]; simp; omega, fun e he => ?_⟩, _, _, _, _, _, _, rfl⟩
        rcases List.mem_append.mp he with h | h
        · exact (hent e h).kp K14 ⟨_, hes⟩
        · rw [List.mem_singleton.mp h]
          exact ⟨ns, p, k14 _ _ e13 n13, k14 _ _ (s13 _ _ (S12 _ _ ep10)) npp, npp, fn, by omega⟩
    · obtain ⟨k5, ⟨es, hes, les, hent⟩, v2, v3, v4, v5, v6, v7, rfl⟩ := w
      rw [List.length_map] at les
      repeat walk_at "s"
      refine ⟨⟨_, SqL.new hes⟩, ?_⟩
      refine for_list (K := K) (a := p1) (xs := es.map V.ref) (fun j σ H' => Same H5 H' ∧ ∃ v4 v8 v9 : Option V, σ = [some (.ref sc), some (.ref p1), v2, v3, v4, v5, v6, v7, v8, v9]) ⟨.refl _, _, _, _, rfl⟩ (fun j σ Hj _ w => w.1.seq (SqL.new hes)) (fun j x σ Hj hx w => ?_) (fun σ Hj w => ?_)
      · obtain ⟨sj, v4, v8, v9, rfl⟩ := w
        obtain ⟨e, he, rfl⟩ := ref_at hx
        obtain ⟨ns, p, e1, e2, np, fn, ln⟩ := hent e (List.mem_of_getElem? he)
        obtain ⟨r1, r2, r3, r4⟩ := Gd.shown_ints (ns := ns) (by omega) fun n hn => Gd.log_small (fn.2 n hn).1 (fn.2 n hn).2
        refine ⟨e, _, rfl, .inl (.inl (sj _ _ e1)), rfl, _, _, rfl, _, _, rfl, rfl, ?_⟩
        repeat walk_at "s"
        refine ⟨fn.smallT, fn.1, by omega, fun r H6 s6 nr er => ?_⟩
        repeat walk_at "s"
        refine ⟨r, di ns, rfl, dp_ints (SqL.new er), r1, r2, r3, r4, ?_⟩
        repeat walk_at "s"
        refine ⟨p, di ns, rfl, dp_ints (SqL.new (s6 _ _ (sj _ _ e2))), r1, r2, r3, r4, ?_⟩
        repeat walk_at "s"
        refine ne_same rfl ?_
        refine ⟨_, rfl, ?_⟩
        refine iteF ?_
        repeat walk_at "s"
        refine ⟨.inl ⟨rfl, _, SqL.new er⟩, ?_⟩
        repeat walk_at "s"
        refine ⟨r, _, _, rfl, rfl, er, smallLt (by rw [List.length_map]; omega), ?_⟩
        have nr5 : Hj r = none := nr
        have S7 : Same Hj (upd H6 r (.lst (ns.map V.int ++ [V.int 0]))) := fun b o h => by
          rw [upd_ne (ne_of_none h nr)]
          exact s6 _ _ h
        generalize upd H6 r (.lst (ns.map V.int ++ [V.int 0])) = H7 at S7 ⊢
        repeat walk_at "s"
        refine ⟨fn.smallT, fn.1, by omega, fun r2' H8 s8 nr2 er2 => ?_⟩
        repeat walk_at "s"
        refine ⟨r2', di ns, rfl, dp_ints (SqL.new er2), r1, r2, r3, r4, ?_⟩
        repeat walk_at "s"
        refine ⟨p, di ns, rfl, dp_ints (SqL.new (s8 _ _ (S7 _ _ (sj _ _ e2)))), r1, r2, r3, r4, ?_⟩
        repeat walk_at "s"
        refine ne_same rfl ?_
        refine ⟨_, rfl, ?_⟩
        refine iteF ?_
        exact ⟨sj.trans (S7.trans s8), _, _, _, rfl⟩
      · exact q _

end
theorem all_mk {l : PySem.W.OpenLaw} {w : World} {K : PySem.W.Frag} {h : Heap} {mg : Str → Option Value} {fa f0 f1 f2 f3 f4 f5 f6 f7 f8 f9 f10 : Addr} (X : K.In h) (G : h.Ns mainGlobals mg) (hfa : mg "law" = some (.ref fa))
    {od0 an0 od1 an1 od2 an2 od3 an3 od4 an4 od5 an5 od6 an6 od7 an7 od8 an8 od9 an9 od10 an10 : Option Addr} {sl0 sl1 sl2 sl3 sl4 sl5 sl6 sl7 sl8 sl9 sl10 : Array (Option Value)} {oc0 kV0 dc0 pm0 ct0 cd0 oc1 kV1 dc1 pm1 ct1 cd1 oc2 kV2 dc2 pm2 ct2 cd2 oc3 kV3 dc3 pm3 ct3 cd3 oc4 kV4 dc4 pm4 ct4 cd4 oc5 kV5 dc5 pm5 ct5 cd5 oc6 kV6 dc6 pm6 ct6 cd6 oc7 kV7 dc7 pm7 ct7 cd7 oc8 kV8 dc8 pm8 ct8 cd8 oc9 kV9 dc9 pm9 ct9 cd9 oc10 kV10 dc10 pm10 ct10 cd10 : Value}
    (a0 : PySem.W.nsIn K mainGlobals "_law_take" = some (some (.ref f0))) (l0 : K.lookup f0 = some ⟨oc0, od0, .func (PySem.W.fnOf "_law_take" "_law_take" (defArgs slaw_take) (defBody slaw_take) (defScope slaw_take) .none kV0 dc0 pm0 an0 cd0 ct0), sl0⟩) (c0 : PySem.W.codeIn K cd0 "_law_take" = true) (k0 : PySem.W.keepIn K (.ref f0) = true)
    (a1 : PySem.W.nsIn K mainGlobals "_law_deck" = some (some (.ref f1))) (l1 : K.lookup f1 = some ⟨oc1, od1, .func (PySem.W.fnOf "_law_deck" "_law_deck" (defArgs slaw_deck) (defBody slaw_deck) (defScope slaw_deck) .none kV1 dc1 pm1 an1 cd1 ct1), sl1⟩) (c1 : PySem.W.codeIn K cd1 "_law_deck" = true) (k1 : PySem.W.keepIn K (.ref f1) = true)
    (a2 : PySem.W.nsIn K mainGlobals "_law_number" = some (some (.ref f2))) (l2 : K.lookup f2 = some ⟨oc2, od2, .func (PySem.W.fnOf "_law_number" "_law_number" (defArgs slaw_number) (defBody slaw_number) (defScope slaw_number) .none kV2 dc2 pm2 an2 cd2 ct2), sl2⟩) (c2 : PySem.W.codeIn K cd2 "_law_number" = true) (k2 : PySem.W.keepIn K (.ref f2) = true)
    (a3 : PySem.W.nsIn K mainGlobals "_law_row" = some (some (.ref f3))) (l3 : K.lookup f3 = some ⟨oc3, od3, .func (PySem.W.fnOf "_law_row" "_law_row" (defArgs slaw_row) (defBody slaw_row) (defScope slaw_row) .none kV3 dc3 pm3 an3 cd3 ct3), sl3⟩) (c3 : PySem.W.codeIn K cd3 "_law_row" = true) (k3 : PySem.W.keepIn K (.ref f3) = true)
    (a4 : PySem.W.nsIn K mainGlobals "_law_shown" = some (some (.ref f4))) (l4 : K.lookup f4 = some ⟨oc4, od4, .func (PySem.W.fnOf "_law_shown" "_law_shown" (defArgs slaw_shown) (defBody slaw_shown) (defScope slaw_shown) .none kV4 dc4 pm4 an4 cd4 ct4), sl4⟩) (c4 : PySem.W.codeIn K cd4 "_law_shown" = true) (k4 : PySem.W.keepIn K (.ref f4) = true)
    (a5 : PySem.W.nsIn K mainGlobals "show_row" = some (some (.ref f5))) (l5 : K.lookup f5 = some ⟨oc5, od5, .func (PySem.W.fnOf "show_row" "show_row" (defArgs sshow_row) (defBody sshow_row) (defScope sshow_row) .none kV5 dc5 pm5 an5 cd5 ct5), sl5⟩) (c5 : PySem.W.codeIn K cd5 "show_row" = true) (k5 : PySem.W.keepIn K (.ref f5) = true)
    (a6 : PySem.W.nsIn K mainGlobals "is_whole" = some (some (.ref f6))) (l6 : K.lookup f6 = some ⟨oc6, od6, .func (PySem.W.fnOf "is_whole" "is_whole" (defArgs sis_whole) (defBody sis_whole) (defScope sis_whole) .none kV6 dc6 pm6 an6 cd6 ct6), sl6⟩) (c6 : PySem.W.codeIn K cd6 "is_whole" = true) (k6 : PySem.W.keepIn K (.ref f6) = true)
    (a7 : PySem.W.nsIn K mainGlobals "is_row" = some (some (.ref f7))) (l7 : K.lookup f7 = some ⟨oc7, od7, .func (PySem.W.fnOf "is_row" "is_row" (defArgs sis_row) (defBody sis_row) (defScope sis_row) .none kV7 dc7 pm7 an7 cd7 ct7), sl7⟩) (c7 : PySem.W.codeIn K cd7 "is_row" = true) (k7 : PySem.W.keepIn K (.ref f7) = true)
    (a8 : PySem.W.nsIn K mainGlobals "written_number" = some (some (.ref f8))) (l8 : K.lookup f8 = some ⟨oc8, od8, .func (PySem.W.fnOf "written_number" "written_number" (defArgs swritten_number) (defBody swritten_number) (defScope swritten_number) .none kV8 dc8 pm8 an8 cd8 ct8), sl8⟩) (c8 : PySem.W.codeIn K cd8 "written_number" = true) (k8 : PySem.W.keepIn K (.ref f8) = true)
    (a9 : PySem.W.nsIn K mainGlobals "read_row" = some (some (.ref f9))) (l9 : K.lookup f9 = some ⟨oc9, od9, .func (PySem.W.fnOf "read_row" "read_row" (defArgs sread_row) (defBody sread_row) (defScope sread_row) .none kV9 dc9 pm9 an9 cd9 ct9), sl9⟩) (c9 : PySem.W.codeIn K cd9 "read_row" = true) (k9 : PySem.W.keepIn K (.ref f9) = true)
    (a10 : PySem.W.nsIn K mainGlobals "law" = some (some (.ref f10))) (l10 : K.lookup f10 = some ⟨oc10, od10, .func (PySem.W.fnOf "law" "law" (defArgs slaw) (defBody slaw) (defScope slaw) .none kV10 dc10 pm10 an10 cd10 ct10), sl10⟩) (c10 : PySem.W.codeIn K cd10 "law" = true) (k10 : PySem.W.keepIn K (.ref f10) = true)
    {tFI : Tok} (aFI : PySem.W.nsIn K mainGlobals "FIGURES" = some (some (.int 16 tFI)))
    (zlen : PySem.W.nsIn K mainGlobals "len" = some none)
    (zlist : PySem.W.nsIn K mainGlobals "list" = some none)
    (zenumerate : PySem.W.nsIn K mainGlobals "enumerate" = some none)
    (zint : PySem.W.nsIn K mainGlobals "int" = some none)
    (zbool : PySem.W.nsIn K mainGlobals "bool" = some none)
    (zsum : PySem.W.nsIn K mainGlobals "sum" = some none)
    (zsorted : PySem.W.nsIn K mainGlobals "sorted" = some none)
    (zmin : PySem.W.nsIn K mainGlobals "min" = some none)
    (zmax : PySem.W.nsIn K mainGlobals "max" = some none)
    (zrange : PySem.W.nsIn K mainGlobals "range" = some none)
    (zisinstance : PySem.W.nsIn K mainGlobals "isinstance" = some none)
    (zrepr : PySem.W.nsIn K mainGlobals "repr" = some none)
    (ztuple : PySem.W.nsIn K mainGlobals "tuple" = some none)
    (zdict : PySem.W.nsIn K mainGlobals "dict" = some none)
    (zabs : PySem.W.nsIn K mainGlobals "abs" = some none)
    (zstr : PySem.W.nsIn K mainGlobals "str" = some none)
    : ∃ fd : FuncData, (∀ (s : Shared) (v : Value), BindsTo s fd ⟨[v], []⟩ [("script", v)]) ∧ ∀ base : Heap, K.In base → base.Ns mainGlobals mg → Gd.FnG l.prog w K mg base 4 fa fd ["script"] (spLaw K) := by
  have e := hfa.symm.trans (PySem.W.mg_of X G a10)
  cases e
  have B : Bt mg := ⟨PySem.W.mg_none_of X G zlen, PySem.W.mg_none_of X G zlist, PySem.W.mg_none_of X G zenumerate, PySem.W.mg_none_of X G zint, PySem.W.mg_none_of X G zbool, PySem.W.mg_none_of X G zsum, PySem.W.mg_none_of X G zsorted, PySem.W.mg_none_of X G zmin, PySem.W.mg_none_of X G zmax, PySem.W.mg_none_of X G zrange, PySem.W.mg_none_of X G zisinstance, PySem.W.mg_none_of X G zrepr, PySem.W.mg_none_of X G ztuple, PySem.W.mg_none_of X G zdict, PySem.W.mg_none_of X G zabs, PySem.W.mg_none_of X G zstr⟩
  have figs := PySem.W.mg_of X G aFI
  have F0 := fun_mk (st := slaw_take) l0 c0 k0
  have b0 := F0.binds (ps := ["deck", "many"]) fun _ _ _ _ _ _ us hl => match us, hl with | [_, _], _ => rfl
  have F1 := fun_mk (st := slaw_deck) l1 c1 k1
  have b1 := F1.binds (ps := ["cell", "k"]) fun _ _ _ _ _ _ us hl => match us, hl with | [_, _], _ => rfl
  have F2 := fun_mk (st := slaw_number) l2 c2 k2
  have b2 := F2.binds (ps := ["deck"]) fun _ _ _ _ _ _ us hl => match us, hl with | [_], _ => rfl
  have F3 := fun_mk (st := slaw_row) l3 c3 k3
  have b3 := F3.binds (ps := ["deck", "most"]) fun _ _ _ _ _ _ us hl => match us, hl with | [_, _], _ => rfl
  have F4 := fun_mk (st := slaw_shown) l4 c4 k4
  have b4 := F4.binds (ps := ["row"]) fun _ _ _ _ _ _ us hl => match us, hl with | [_], _ => rfl
  have F5 := fun_mk (st := sshow_row) l5 c5 k5
  have b5 := F5.binds (ps := ["row"]) fun _ _ _ _ _ _ us hl => match us, hl with | [_], _ => rfl
  have F6 := fun_mk (st := sis_whole) l6 c6 k6
  have b6 := F6.binds (ps := ["thing"]) fun _ _ _ _ _ _ us hl => match us, hl with | [_], _ => rfl
  have F7 := fun_mk (st := sis_row) l7 c7 k7
  have b7 := F7.binds (ps := ["thing"]) fun _ _ _ _ _ _ us hl => match us, hl with | [_], _ => rfl
  have F8 := fun_mk (st := swritten_number) l8 c8 k8
  have b8 := F8.binds (ps := ["word", "most"]) fun _ _ _ _ _ _ us hl => match us, hl with | [_, _], _ => rfl
  have F9 := fun_mk (st := sread_row) l9 c9 k9
  have b9 := F9.binds (ps := ["text"]) fun _ _ _ _ _ _ us hl => match us, hl with | [_], _ => rfl
  have F10 := fun_mk (st := slaw) l10 c10 k10
  have b10 := F10.binds (ps := ["script"]) fun _ _ _ _ _ _ us hl => match us, hl with | [_], _ => rfl
  refine ⟨PySem.W.fnOf "law" "law" (defArgs slaw) (defBody slaw) (defScope slaw) .none kV10 dc10 pm10 an10 cd10 ct10, fun s v => .of_eq rfl, fun base _ _ => ?_⟩
  have g0 : Cal l.prog w K mg base 1 "_law_take" ["deck", "many"] spTk := ⟨_, _, ok_tk F0, PySem.W.mg_of X G a0, k0, b0⟩
  have g1 : Cal l.prog w K mg base 1 "_law_deck" ["cell", "k"] spDk := ⟨_, _, ok_dk F1, PySem.W.mg_of X G a1, k1, b1⟩
  have g2 : Cal l.prog w K mg base 2 "_law_number" ["deck"] spNumK := ⟨_, _, ok_num53 F2 g0, PySem.W.mg_of X G a2, k2, b2⟩
  have g3 : Cal l.prog w K mg base 3 "_law_row" ["deck", "most"] spRowK := ⟨_, _, ok_row53 B F3 g0 g2, PySem.W.mg_of X G a3, k3, b3⟩
  have g4 : Cal l.prog w K mg base 1 "_law_shown" ["row"] (spShown K) := ⟨_, _, ok_shown B F4, PySem.W.mg_of X G a4, k4, b4⟩
  have g5 : Cal l.prog w K mg base 1 "show_row" ["row"] (spShown K) := ⟨_, _, ok_show B F5, PySem.W.mg_of X G a5, k5, b5⟩
  have g6 : Cal l.prog w K mg base 1 "is_whole" ["thing"] (spIsWhole K) := ⟨_, _, ok_is_whole B F6, PySem.W.mg_of X G a6, k6, b6⟩
  have g7 : Cal l.prog w K mg base 2 "is_row" ["thing"] (spIsRow K) := ⟨_, _, ok_is_row B F7 g6, PySem.W.mg_of X G a7, k7, b7⟩
  have g8 : Cal l.prog w K mg base 1 "written_number" ["word", "most"] spWrit := ⟨_, _, ok_writ B F8, PySem.W.mg_of X G a8, k8, b8⟩
  have g9 : Cal l.prog w K mg base 3 "read_row" ["text"] (spRead K) := ⟨_, _, ok_read B F9 figs g7 g8, PySem.W.mg_of X G a9, k9, b9⟩
  exact ok_law53 B F10 g0 g1 g2 g3 g4 g5 g9
end Sp
open PySem PySem.W PyProof.Rows
set_option maxRecDepth 100000 in
set_option maxHeartbeats 0 in
theorem PySem.Challenge.cw_sumplace_k53_rows_written_holds : PySem.Challenge.rw_sumplace_k53_rows_written.Holds := by
  w_on; o_law; k_head; (case hw => w_witness2)
  k_fill
  refine Gd.walkG (l := PySem.Challenge.rw_sumplace_k53_rows_written) (n := 63) (k := 4) (x := "script") (sp := Sp.spLaw) rfl (by decide) rfl ⟨rfl, by decide, by decide⟩ (fun w h Y => PySem.W.kIn_of Y) ?F (fun _ _ a ns hl hS => ⟨a, ns, rfl, hS, hl, fun _ => rfl⟩)
  case F =>
    intro w mg fa h KX G hmg
    refine' Sp.all_mk KX G hmg ?a0 ?l0 ?c0 ?k0 ?a1 ?l1 ?c1 ?k1 ?a2 ?l2 ?c2 ?k2 ?a3 ?l3 ?c3 ?k3 ?a4 ?l4 ?c4 ?k4 ?a5 ?l5 ?c5 ?k5 ?a6 ?l6 ?c6 ?k6 ?a7 ?l7 ?c7 ?k7 ?a8 ?l8 ?c8 ?k8 ?a9 ?l9 ?c9 ?k9 ?a10 ?l10 ?c10 ?k10 ?aFI ?zlen ?zlist ?zenumerate ?zint ?zbool ?zsum ?zsorted ?zmin ?zmax ?zrange ?zisinstance ?zrepr ?ztuple ?zdict ?zabs ?zstr
    (case a0 => k_is)
    (case l0 => k_is)
    (case c0 => k_is)
    (case k0 => k_is)
    (case a1 => k_is)
    (case l1 => k_is)
    (case c1 => k_is)
    (case k1 => k_is)
    (case a2 => k_is)
    (case l2 => k_is)
    (case c2 => k_is)
    (case k2 => k_is)
    (case a3 => k_is)
    (case l3 => k_is)
    (case c3 => k_is)
    (case k3 => k_is)
    (case a4 => k_is)
    (case l4 => k_is)
    (case c4 => k_is)
    (case k4 => k_is)
    (case a5 => k_is)
    (case l5 => k_is)
    (case c5 => k_is)
    (case k5 => k_is)
    (case a6 => k_is)
    (case l6 => k_is)
    (case c6 => k_is)
    (case k6 => k_is)
    (case a7 => k_is)
    (case l7 => k_is)
    (case c7 => k_is)
    (case k7 => k_is)
    (case a8 => k_is)
    (case l8 => k_is)
    (case c8 => k_is)
    (case k8 => k_is)
    (case a9 => k_is)
    (case l9 => k_is)
    (case c9 => k_is)
    (case k9 => k_is)
    (case a10 => k_is)
    (case l10 => k_is)
    (case c10 => k_is)
    (case k10 => k_is)
    (case aFI => k_is)
    (case zlen => k_is)
    (case zlist => k_is)
    (case zenumerate => k_is)
    (case zint => k_is)
    (case zbool => k_is)
    (case zsum => k_is)
    (case zsorted => k_is)
    (case zmin => k_is)
    (case zmax => k_is)
    (case zrange => k_is)
    (case zisinstance => k_is)
    (case zrepr => k_is)
    (case ztuple => k_is)
    (case zdict => k_is)
    (case zabs => k_is)
    (case zstr => k_is)
