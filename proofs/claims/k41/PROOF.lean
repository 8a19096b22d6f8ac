import PyProof.Rows.All
import Wide.All
import OpenK.AllK
import Wide.FinOn
import Lean
import PyProof.EqAt
import PyProof.EqKinds
import PyProof.TupleCall
import PySem.Challenge.RW_boardsight_k41_grown_one_by_one
set_option Elab.async false
set_option linter.all false
set_option maxRecDepth 100000
local macro_rules | `(tactic| omega) => `(tactic| first | assumption | with_reducible rfl | exact Nat.le_of_lt (by assumption) | exact Int.le_of_lt (by assumption) | omega (config := {}))
def xaa:=@List.length_map
def xab:=@List.getElem?_eq_getElem
def xac:=@List.getD_eq_getElem?_getD
def xad:=@List.length_append
def xae:=@Nat.le_refl
def xaf:=@List.getElem?_map
def xag:=@List.getElem?_eq_some_iff
def xah:=@Nat.mod_eq_of_lt
def xai:=@List.size_toArray
def xaj:=@List.map_append
def xak:=@List.mem_append_right
def xal:=@Classical.byContradiction
def xam:=@List.mem_singleton
def xan:=@Nat.ne_of_lt
def xao:=@Nat.lt_of_lt_of_le
def xap:=@List.mem_cons
def xaq:=@Int.mul_pos
def xar:=@Bool.false_ne_true
def xas:=@List.mem_cons_of_mem
def xat:=@List.getElem?_append_right
def xau:=@List.length_take
def xav:=@List.mem_of_getElem?
def xaw:=@List.length_cons
def xax:=@List.mem_map
def xay:=@List.map_cons
def xaz:=@List.mem_append
def xaA:=@Int.mul_neg_of_pos_of_neg
def xaB:=@List.filter_append
def xaC:=@List.length_drop
def xaD:=@Option.map_eq_some_iff
def xaE:=@Nat.le_trans
def xaF:=@List.getElem?_eq_none
def xaG:=@Nat.zero_le
def xaH:=@List.getElem?_append_left
def xaI:=@Int.mul_eq_zero
def xaJ:=@Int.mul_nonneg
def xaK:=@List.mem_append_left
def xaL:=@Nat.mod_lt
def xaM:=@List.range_succ
def xaN:=@List.length_replicate
def xaO:=@List.map_map
def xaP:=@List.reverse_cons
def xaQ:=@List.length_reverse
def xaR:=@Nat.not_lt_zero
def xaS:=@List.lookup_cons
def xaT:=@List.filter_cons_of_pos
def xaU:=@Int.toNat_natCast
def xaV:=@List.length_range
def xaW:=@List.take_append_drop
def xaX:=@List.filter_cons
def xaY:=@List.mem_range
def xaZ:=@List.take_add_one
def xa0:=@Int.mul_neg_of_neg_of_pos
def xa1:=@Nat.le_of_lt
def xa2:=@List.getElem_mem
def xa3:=@List.take_length
def xa4:=@Nat.lt_succ_of_lt
def xa5:=@List.length_eq_zero_iff
def xa6:=@List.eraseIdx_eq_take_drop_succ
def xa7:=@Nat.add_mod_right
def xa8:=@List.filter_cons_of_neg
def xa9:=@Int.mul_ediv_cancel'
def xba:=@List.mem_cons_self
def xbb:=@Nat.lt_of_le_of_lt
def xbc:=@Int.emod_lt_of_pos
def xbd:=@List.take_of_length_le
def xbe:=@Int.ediv_mul_cancel
def xbf:=@Int.mul_comm
def xbg:=@Int.zero_mul
def xbh:=@Nat.lt_irrefl
def xbi:=@List.mem_of_mem_take
def xbj:=@Int.mul_zero
def xbk:=@Nat.mod_self
def xbl:=@Int.le_refl
def xbm:=@List.flatMap_cons
def xbn:=@List.nodup_cons
def xbo:=@Int.emod_nonneg
def xbp:=@Int.mul_le_mul_of_nonneg_right
def xbq:=@Int.pos_of_mul_pos_right
def xbr:=@List.all_eq_true
def xbs:=@Nat.pow_le_pow_right
def xbt:=@List.getElem?_cons_succ
def xbu:=@List.append_assoc
def xbv:=@Int.gcd_dvd_right
def xbw:=@List.mem_filter
def xbx:=@List.append_nil
def xby:=@List.mem_map_of_mem
def xbz:=@Int.gcd_dvd_left
def xbA:=@List.pairwise_cons
def xbB:=@Int.dvd_trans
def xbC:=@Nat.zero_add
def xbD:=@List.mem_iff_getElem?
def xbE:=@Bool.and_eq_true_iff
def xbF:=@List.mem_iff_getElem
def xbG:=@List.getElem?_of_mem
def xbH:=@List.ext_getElem?
def xbI:=@Int.dvd_coe_gcd
def xbJ:=@Int.le_of_lt
def xbK:=@List.filterMap_cons
def xbL:=@Int.eq_ofNat_of_zero_le
def xbM:=@Bool.and_eq_true
def xbN:=@List.mem_flatMap
def xbO:=@Int.mul_one
def xbP:=@Nat.le_succ
def xbQ:=@List.length_filter_le
def xbR:=@List.getElem?_reverse
def xbS:=@List.getElem?_toArray
def xbT:=@List.length_eraseIdx_of_lt
def xbU:=@List.drop_eq_getElem_cons
def xbV:=@Int.natAbs_ediv_le_natAbs
def xbW:=@List.drop_left
def xbX:=@List.take_left
def xbY:=@List.not_mem_nil
def xbZ:=@List.map_congr_left
def xb0:=@List.flatMap_append
def xb1:=@Int.ediv_neg
def xb2:=@Bool.eq_iff_iff
def xb3:=@List.getElem?_replicate
def xb4:=@Nat.min_eq_left
def xb5:=@List.getElem?_drop
def xb6:=@List.map_drop
def xb7:=@List.map_take
def xb8:=@Int.fdiv_eq_ediv_of_dvd
def xb9:=@List.pairwise_lt_range
def xca:=@List.drop_of_length_le
def xcb:=@Int.neg_mul
def xcc:=@List.cons_eq_cons
def xcd:=@Nat.ne_of_gt
def xce:=@List.length_singleton
def xcf:=@Int.natAbs_dvd_natAbs
def xcg:=@Nat.lt_succ_self
def xch:=@List.any_cons
def xci:=@List.find?_cons
def xcj:=@Option.map_some
def xck:=@List.foldl_cons
def xcl:=@Int.mul_add
def xcm:=@Int.neg_neg
def xcn:=@Int.neg_mul_neg
def xco:=@Nat.le_of_eq
def xcp:=@List.map_nil
def xcq:=@Nat.sub_self
def xcr:=@Bool.false_eq_true
def xcs:=@Nat.lt_or_ge
def xct:=@Int.dvd_refl
def xcu:=@Int.zero_add
def xcv:=@List.getElem?_take
def xcw:=@Int.lt_or_le
def xcx:=@Nat.lt_or_gt_of_ne
def xcy:=@Int.natAbs_mul
def xcz:=@Int.natAbs_neg
def xcA:=@Nat.mul_le_mul
def xcB:=@List.nodup_append
def xcC:=@List.foldl_append
def xcD:=@Int.mul_assoc
namespace L2
open PySem PySem.Spec PyProof.Rows
abbrev Key:=Sum Int Str
def jh0:Key->Value->Bool
 | .inl k,v=>Value.isInt k v
 | .inr x,v=>Value.isStrOf x v
def keyH (w:World):Key->Int
 | .inl k=>hashInt k
 | .inr x=>hashStr w x
theorem jaV:∀{k:Key} {v:Value},jh0 k v=true->(∃i t,k=Sum.inl i/\v=Value.int i t)\/(∃x t,k=Sum.inr x/\v=Value.str x t)
  | .inl i, v, h => by
    obtain⟨t,e⟩:=Value.isInt_shape (k:=i) (v:=v) h;exact .inl ⟨i,t,rfl,e⟩
  | .inr x, v, h => by
    obtain⟨t,e⟩:=Value.isStrOf_shape (x:=x) (v:=v) h;exact .inr ⟨x,t,rfl,e⟩
theorem jiy (i:Int) (t:Tok):jh0 (.inl i) (.int i t)=true:=by simp [jh0,Value.isInt]
theorem jiz (x:Str) (t:Tok):jh0 (.inr x) (.str x t)=true:=by simp [jh0,Value.isStrOf]
theorem joy (a b:Int):decide ((Sum.inl a:Key)=Sum.inl b)=(a==b):=by
 by_cases e:a=b
 ·subst e;simp
 ·have h:¬(Sum.inl a:Key)=Sum.inl b:=fun q=>e (Sum.inl.inj q);rw[decide_eq_false h];exact (beq_eq_false_iff_ne.mpr e).symm
theorem joz (a b:Str):decide ((Sum.inr a:Key)=Sum.inr b)=decide (a=b):=by
 by_cases e:a=b
 ·subst e;simp
 ·have h:¬(Sum.inr a:Key)=Sum.inr b:=fun q=>e (Sum.inr.inj q);rw[decide_eq_false h,decide_eq_false e]
theorem joA (a:Int) (b:Str):decide ((Sum.inl a:Key)=Sum.inr b)=false:=decide_eq_false (fun q=>nomatch q)
theorem joB (a:Str) (b:Int):decide ((Sum.inr a:Key)=Sum.inl b)=false:=decide_eq_false (fun q=>nomatch q)
def jbn (prog:Program) (w:World):PySem.KeyKind prog w Key where
 is:=jh0
 hash:=keyH w
 inj:=fun v a b ha hb=>by
  rcases jaV ha with ⟨i,t,rfl,rfl⟩ | ⟨x,t,rfl,rfl⟩
  ·rcases jaV hb with ⟨j,u,rfl,e⟩ | ⟨y,u,rfl,e⟩
   ·injection e with e1 _;rw[e1]
   ·exact nomatch e
  ·rcases jaV hb with ⟨j,u,rfl,e⟩ | ⟨y,u,rfl,e⟩
   ·exact nomatch e
   ·injection e with e1 _;rw[e1]
 byValue:=fun k v h=>by
  rcases jaV h with ⟨i,t,rfl,rfl⟩ | ⟨x,t,rfl,rfl⟩<;>rfl
 pyHash:=fun hv h=>by
  rcases jaV hv with ⟨i,t,rfl,rfl⟩ | ⟨x,t,rfl,rfl⟩
  ·exact wpAny_pyHash_int h
  ·exact wpAny_pyHash_str h
 eqBool:=fun hu hv h=>by
  rcases jaV hu with ⟨i,t,rfl,rfl⟩ | ⟨x,t,rfl,rfl⟩
  ·rcases jaV hv with ⟨j,u,rfl,rfl⟩ | ⟨y,u,rfl,rfl⟩
   ·rw[joy] at h;exact wpAny_eqBool_int h
   ·rw[joA] at h;exact SeqAt.EqAt.int_str i t y u _ _ _ _ h
  ·rcases jaV hv with ⟨j,u,rfl,rfl⟩ | ⟨y,u,rfl,rfl⟩
   ·rw[joB] at h;exact SeqAt.EqAt.str_int x t j u _ _ _ _ h
   ·rw[joz] at h;exact wpAny_eqBool_str h
 «strs»:=fun k x t v h=>by
  rcases jaV h with ⟨i,u,rfl,e⟩ | ⟨y,u,rfl,e⟩
  ·exact nomatch e
  ·injection e with e1 _
   subst e1
   cases v<;>rfl
theorem jgD (prog:Program) (w:World) (i:Int) (t:Tok):(jbn prog w).is (.inl i) (.int i t)=true:=jiy i t
theorem jgE (prog:Program) (w:World) (x:Str) (t:Tok):(jbn prog w).is (.inr x) (.str x t)=true:=jiz x t
inductive V where
 | non | bl (b:Bool) | int (i:Int) | str (x:Str) | byt (b:Array UInt8) | flt (b:UInt64) | ref (a:Addr) | ty (n:String)
 deriving DecidableEq
def RelV:V->Value->Prop
 | .non,u=>u=Value.none
 | .bl b,u=>u=Value.bool b
 | .int i,u=>∃t,u=Value.int i t
 | .str x,u=>∃t,u=Value.str x t
 | .byt b,u=>∃t,u=Value.bytes b t
 | .flt b,u=>∃t,u=Value.float b t
 | .ref a,u=>u=Value.ref a
 | .ty n,u=>u=Value.type n
abbrev Vals:List V->List Value->Prop:=Paired RelV
theorem Vals.length {xs:List V} {us:List Value} (r:Vals xs us):xs.length=us.length:=Paired.length r
theorem Vals.get:∀{xs:List V} {us:List Value} {i:Nat} {x:V},Vals xs us->xs[i]?=some x->∃u,us[i]?=some u/\RelV x u
  | _,_,_,_,.nil,e=>by simp at e
  | _,_,0,_,.cons r _,e=>by simp at e;subst e;exact⟨_,rfl,r⟩
  | _, _, i + 1, x, .cons _ t, e => by
    obtain⟨u,h1,h2⟩:=Vals.get (i:=i) (x:=x) t (by simpa using e);exact⟨u,by simpa using h1,h2⟩
theorem Vals.set {x:V} {u:Value} (r:RelV x u):∀{xs:List V} {us:List Value} (i:Nat),Vals xs us->Vals (xs.set i x) (us.set i u)
 | _,_,_,.nil=>.nil
 | _,_,0,.cons _ t=>.cons r t
 | _,_,i+1,.cons q t=>.cons q (Vals.set r i t)
theorem Vals.append:∀{xs ys:List V} {us ws:List Value},Vals xs us->Vals ys ws->Vals (xs++ys) (us++ws)
 | _,_,_,_,.nil,s=>s
 | _,_,_,_,.cons r t,s=>.cons r (Vals.append t s)
theorem Vals.take:∀{xs:List V} {us:List Value} (n:Nat),Vals xs us->Vals (xs.take n) (us.take n)
 | _,_,0,_=>.nil
 | _,_,_+1,.nil=>.nil
 | _,_,n+1,.cons r t=>.cons r (Vals.take n t)
theorem Vals.drop:∀{xs:List V} {us:List Value} (n:Nat),Vals xs us->Vals (xs.drop n) (us.drop n)
 | _,_,0,r=>r
 | _,_,_+1,.nil=>.nil
 | _,_,n+1,.cons _ t=>Vals.drop n t
def RelO:Option V->Option Value->Prop
 | some v,some u=>RelV v u
 | none,none=>True
 | _,_=>False
def KV {κ:Type}:List (κ × V)->List (κ × Value)->Prop:=Paired fun (p:κ × V) (q:κ × Value)=>p.1=q.1/\RelV p.2 q.2
def kV:Key->V
 | .inl i=>.int i
 | .inr x=>.str x
inductive HO where
 | lst (xs:List V)
 | tup (xs:List V)
 | dK (kvs:List (Key × V)) | dT (kvs:List (List Key × V))
 | set (S:Int->Bool) (n:Nat)
 | ins (C dx:Addr) (fs:List (Str × V))
 | own (x:Addr)
 | xd (fs:List (Str × V))
 | met (f x:Addr)
 | rng (lo hi:Int)
 | frz (o:Obj) (u:HO)
 | tbl (ps:Array Value)
 | ext (φ:Heap->Prop)
abbrev Hp:=Addr->Option HO
def upd (H:Hp) (a:Addr) (o:HO):Hp:=fun b=>if b=a then some o else H b
theorem jaf {H:Hp} {a:Addr} {o:HO}:upd H a o a=some o:=by unfold upd;rw[if_pos rfl]
theorem jaC {H:Hp} {a b:Addr} {o:HO} (h:b≠a):upd H a o b=H b:=by unfold upd;rw[if_neg h]
theorem jax {H:Hp} {a b:Addr} {o:HO} (h:H a=some o) (h':H b=none):a≠b:=by
 intro e;subst e;rw[h] at h';cases h'
section
variable (P:Program) (w:World)
def ObjOk (H:Hp) (h:Heap) (a:Addr):HO->Prop
 | .lst xs=>xs.length<=sizeLine/\∃(its:List Value) (n:Nat),Vals xs its/\h.get? a=some { cls:=.type "list",data:=.seq its.toArray n }
 | .tup xs=>xs.length<=sizeLine/\∃its:List Value,Vals xs its/\IsTup h a its.toArray
 | .dK kvs=>kvs.length<=sizeLine/\(a==sysModules)=false/\∃vs,KV kvs vs/\h.DictOf (jbn P w) a vs
 | .dT kvs=>kvs.length <= sizeLine /\ (a==sysModules)=false /\ ∃xs:List (List Key × Addr × Value),
   Paired (fun (p:List Key × V) (q:List Key × Addr × Value)=>p.1=q.1/\H q.2.1=some (.tup (p.1.map kV))/\RelV p.2 q.2.2) kvs xs /\
   ∃o es ep,h.get? a=some o/\o.ExactDict/\o.data=.dict es ep/\es.toList=xs.map (entryOfKey (tupleKind (jbn P w)))/\(xs.map (·.1)).Nodup
 | .set S n=>h.SetOf (intKind P w) a S n
 | .ins C dx fs=>H dx=some (.own a) /\ fs.length <= 1000 /\ dx≠a /\ h.get? a=some (PySem.W.instObj C dx) /\
   ∃mA,h.Ns1 dx mA/\(∀f,RelO (fs.lookup f) (mA f))/\PySem.Within mA (fs.map (·.1))
 | .own _=>∃o,h.get? a=some o
 | .xd fs=>∃mA,h.Ns1 a mA/\∀f,RelO (fs.lookup f) (mA f)
 | .rng lo hi=>∃t u v,h.get? a=some { cls:=.type "range",data:=.fields #[.int lo t,.int hi u,.int 1 v] }
 | .frz o u=>h.get? a=some o/\ObjOk H h a u
 | .tbl ps=>h.get? a=some { cls:=.none,data:=.fields ps }
 | .met f x=>h.get? a=some (PySem.W.methodObj (.ref f) (.ref x))
 | .ext φ=>φ h/\(∃o,h.get? a=some o)/\∀h1 h2:Heap,φ h1->(∀o,h1.get? a=some o->h2.get? a=some o)->φ h2
def HOk (H:Hp) (h:Heap):Prop:=∀a o,H a=some o->ObjOk P w H h a o
end
section
variable {P:Program} {w:World} {H H':Hp} {h h':Heap} {a:Addr} {o:HO}
theorem ObjOk.lt (x:ObjOk P w H h a o):a<h.objs.size:=by
 cases o with
 | lst xs=>obtain⟨_,_,_,_,e⟩:=x;exact Heap.lt_size e
 | tup xs=>obtain⟨_,_,_,p⟩:=x;exact p.lt
 | dK kvs=>obtain⟨_,_,_,_,o,_,_,e,_⟩:=x;exact Heap.lt_size e
 | dT kvs=>obtain⟨_,_,_,_,o,_,_,e,_⟩:=x;exact Heap.lt_size e
 | set S n=>obtain⟨o,_,_,_,e,_⟩:=x;exact Heap.lt_size e
 | ins C dx fs=>obtain⟨_,_,_,e,_⟩:=x;exact Heap.lt_size e
 | own y=>obtain⟨_,e⟩:=x;exact Heap.lt_size e
 | xd fs=>obtain⟨_,⟨_,_,_,e,_⟩,_⟩:=x;exact Heap.lt_size e
 | rng lo hi=>obtain⟨_,_,_,e⟩:=x;exact Heap.lt_size e
 | frz ob u=>obtain⟨e,_⟩:=x;exact Heap.lt_size e
 | tbl ps=>exact Heap.lt_size (show h.get? a=some _ from x)
 | met f y=>exact Heap.lt_size (show h.get? a=some _ from x)
 | ext φ=>obtain⟨_,⟨_,e⟩,_⟩:=x;exact Heap.lt_size e
theorem Paired.mapP {α β:Type} {F G:α->β->Prop}:∀{l₁:List α} {l₂:List β},Paired F l₁ l₂->(∀a b,F a b->G a b)->Paired G l₁ l₂
 | _,_,.nil,_=>.nil
 | _,_,.cons r t,f=>.cons (f _ _ r) (Paired.mapP t f)
theorem ObjOk.stay (x:ObjOk P w H h a o) (k:∀b u,(b=a\/H b=some (.own a))->h.get? b=some u->h'.get? b=some u)
    (ho:∀b,H b=some (.own a)->H' b=some (.own a)) (ht:∀b xs,H b=some (.tup xs)->H' b=some (.tup xs)):ObjOk P w H' h' a o:=by
  induction o with
  | lst xs=>obtain⟨z,its,n,r,e⟩:=x;exact⟨z,its,n,r,k _ _ (.inl rfl) e⟩
  | tup xs=>obtain⟨z,its,r,ob,e,c⟩:=x;exact⟨z,its,r,ob,k _ _ (.inl rfl) e,c⟩
  | dK kvs=>obtain⟨z,y,vs,r,ob,es,ep,e,c⟩:=x;exact⟨z,y,vs,r,ob,es,ep,k _ _ (.inl rfl) e,c⟩
  | dT kvs =>
    obtain⟨z,y,xs,r,ob,es,ep,e,c⟩:=x;exact⟨z,y,xs,Paired.mapP r fun p q z=>⟨z.1,ht _ _ z.2.1,z.2.2⟩,ob,es,ep,k _ _ (.inl rfl) e,c⟩
  | set S n=>obtain⟨ob,es,ep,t,e,c⟩:=x;exact⟨ob,es,ep,t,k _ _ (.inl rfl) e,c⟩
  | ins C dx fs =>
    obtain⟨d,z,ne,e,mA,⟨od,es,ep,e2,c⟩,r⟩:=x;exact⟨ho _ d,z,ne,k _ _ (.inl rfl) e,mA,⟨od,es,ep,k _ _ (.inr d) e2,c⟩,r⟩
  | own y=>obtain⟨ob,e⟩:=x;exact⟨ob,k _ _ (.inl rfl) e⟩
  | xd fs=>obtain⟨mA,⟨od,es,ep,e,c⟩,r⟩:=x;exact⟨mA,⟨od,es,ep,k _ _ (.inl rfl) e,c⟩,r⟩
  | rng lo hi=>obtain⟨t,u,v,e⟩:=x;exact⟨t,u,v,k _ _ (.inl rfl) e⟩
  | frz ob u ih=>obtain⟨e,q⟩:=x;exact⟨k _ _ (.inl rfl) e,ih q⟩
  | tbl ps =>
    have e:h.get? a=some { cls:=.none,data:=.fields ps }:=x;show h'.get? a=some { cls:=.none,data:=.fields ps };exact k a _ (.inl rfl) e
  | met f y =>
    have e:h.get? a=some (PySem.W.methodObj (.ref f) (.ref y)):=x;show h'.get? a=some (PySem.W.methodObj (.ref f) (.ref y));exact k a _ (.inl rfl) e
  | ext φ=>obtain⟨p,⟨o,e⟩,st⟩:=x;exact⟨st _ _ p fun o q=>k _ _ (.inl rfl) q,⟨o,k _ _ (.inl rfl) e⟩,st⟩
theorem HOk.lt (x:HOk P w H h) (e:H a=some o):a<h.objs.size:=(x a o e).lt
theorem HOk.fresh (x:HOk P w H h) (e:h.objs.size<=a):H a=none:=by
 cases q:H a with
 | none=>rfl
 | some u=>exact absurd (xao (x.lt q) e) (xbh _)
theorem HOk.kept (x:HOk P w H h) (k:∀b u,h.get? b=some u->h'.get? b=some u):HOk P w H h':=fun a o e =>
 (x a o e).stay (fun b u _ q=>k b u q) (fun _ q=>q) fun _ _ q=>q
theorem HOk.laid (x:HOk P w H h) (k:∀b u,h.get? b=some u->h'.get? b=some u) (hp:h.objs.size<=a) (new:ObjOk P w (upd H a o) h' a o):HOk P w (upd H a o) h':=fun b u e=>by
 have hn:=x.fresh hp;by_cases hb:b=a
 ·subst hb;rw[jaf] at e;cases e;exact new
 ·rw[jaC hb] at e;exact (x b u e).stay (fun c v _ q=>k c v q) (fun c q=>by rw[jaC (jax q hn)];exact q) fun c xs q=>by rw[jaC (jax q hn)];exact q
end
def Rd (H:Hp) (a:Addr) (u:HO):Prop:=H a=some u\/∃o,H a=some (.frz o u)
theorem Rd.of {H:Hp} {a:Addr} {u:HO} (h:H a=some u):Rd H a u:=.inl h
theorem Rd.ok {P:Program} {w:World} {H:Hp} {h:Heap} {a:Addr} {u:HO} (r:Rd H a u) (x:HOk P w H h):ObjOk P w H h a u:=by
 rcases r with r | ⟨o,r⟩
 ·exact x a u r
 ·obtain⟨_,q⟩:=x a _ r;exact q
def Mut:Option HO->Prop
 | some (.lst _)=>True
 | some (.dK _)=>True
 | some (.dT _)=>True
 | some (.set _ _)=>True
 | some (.ins _ _ _)=>True
 | some (.ext _)=>True
 | _=>False
section
variable {P:Program} {w:World} {H:Hp} {h h':Heap} {x e:Addr} {o':HO}
theorem HOk.write (ok:HOk P w H h) (mu:Mut (H x)) (he:e=x\/H e=some (.own x)) (k:∀b u,b≠e->h.get? b=some u->h'.get? b=some u) (heo:∃u,h'.get? e=some u)
  (new:ObjOk P w (upd H x o') h' x o'):HOk P w (upd H x o') h':=fun b u q=>by
 have nown:∀c y,H c=some (.own y)->c≠x:=fun c y r z=>by subst z;rw[r] at mu;exact mu
 have ntup:∀c xs,H c=some (.tup xs)->c≠x:=fun c xs r z=>by subst z;rw[r] at mu;exact mu
 by_cases hb:b=x
 ·subst hb;rw[jaf] at q;cases q;exact new
 ·rw[jaC hb] at q;by_cases hbe:b=e
  ·have q':H b=some (.own x):=by
    rcases he with z | z
    ·exact absurd (hbe.trans z) hb
    ·rw[hbe];exact z
   rw[q] at q';cases q';obtain⟨v,hv⟩:=heo;exact⟨v,by rw[hbe];exact hv⟩
  ·refine (ok b u q).stay (fun c v hc r=>k c v ?_ r) (fun c r=>by rw[jaC (nown c b r)];exact r) fun c xs r=>by rw[jaC (ntup c xs r)];exact r
   rcases hc with rfl | hc
   ·exact hbe
   ·rintro rfl;rcases he with z | z
    ·exact nown c b hc z
    ·rw[hc] at z;cases z;exact hb rfl
end
structure Un (fs ex:List Addr) (H H':Hp) (h h':Heap):Prop where
 keep:∀b o,h.get? b=some o->H b=none->b∉fs->b∉ex->h'.get? b=some o
 slot:∀b o,h.get? b=some o->H b=none->b∈fs->b∉ex->∃sl,h'.get? b=some { o with slots:=sl }
 free:∀b o,h.get? b=some o->H b=none->b∉ex->H' b=none
 there:∀b o,h.get? b=some o->b∉ex->∃o',h'.get? b=some o'
 tups:∀b xs,H b=some (.tup xs)->H' b=some (.tup xs)
 frzs:∀b o u,H b=some (.frz o u)->H' b=some (.frz o u)
 tbls:∀b ps,H b=some (.tbl ps)->∃more,H' b=some (.tbl (ps++more))
section
variable {fs fs' ex ex':List Addr} {H H1 H2:Hp} {h h1 h2 h':Heap} {a x e:Addr} {o:HO}
theorem Un.any (u:Un fs ex H H1 h h1) {b:Addr} {ob:Obj} (q:h.get? b=some ob) (n:H b=none) (hx:b∉ex):∃sl,h1.get? b=some { ob with slots:=sl }:=by
 by_cases hb:b∈fs
 ·exact u.slot b ob q n hb hx
 ·exact⟨ob.slots,u.keep b ob q n hb hx⟩
theorem Un.trans (a:Un fs ex H H1 h h1) (b:Un fs ex H1 H2 h1 h2):Un fs ex H H2 h h2 where
 keep:=fun c ob q n hc hx=>b.keep c ob (a.keep c ob q n hc hx) (a.free c ob q n hx) hc hx
 slot:=fun c ob q n hc hx=>by
  obtain⟨sl,e1⟩:=a.slot c ob q n hc hx;obtain⟨sl',e2⟩:=b.slot c _ e1 (a.free c ob q n hx) hc hx;exact⟨sl',e2⟩
 free:=fun c ob q n hx=>by
  obtain⟨o',e1⟩:=a.there c ob q hx;exact b.free c o' e1 (a.free c ob q n hx) hx
 there:=fun c ob q hx=>by
  obtain⟨o',e1⟩:=a.there c ob q hx;exact b.there c o' e1 hx
 tups:=fun c xs q=>b.tups c xs (a.tups c xs q)
 frzs:=fun c ob xs q=>b.frzs c ob xs (a.frzs c ob xs q)
 tbls:=fun c ps q=>by
  obtain⟨m1,e1⟩:=a.tbls c ps q;obtain⟨m2,e2⟩:=b.tbls c _ e1;exact⟨m1++m2,by rw[e2,Array.append_assoc]⟩
theorem Un.kept (k:∀b u,h.get? b=some u->h'.get? b=some u):Un fs ex H H h h' :=
 ⟨fun b ob q _ _ _=>k b ob q,fun b ob q _ _ _=>⟨ob.slots,k b ob q⟩,fun _ _ _ n _=>n,fun b ob q _=>⟨ob,k b ob q⟩,fun _ _ q=>q,fun _ _ _ q=>q,fun _ ps q=>⟨#[],by rw[q];simp⟩⟩
theorem Un.refl:Un fs ex H H h h:=Un.kept fun _ _ q=>q
theorem Un.laid (k:∀b u,h.get? b=some u->h'.get? b=some u) (hp:h.objs.size<=a) (hn:H a=none):Un fs ex H (upd H a o) h h' where
 keep:=fun b u q _ _ _=>k b u q
 slot:=fun b u q _ _ _=>⟨u.slots,k b u q⟩
 free:=fun b u q n _=>by rw[jaC (xan (xao (Heap.lt_size q) hp))];exact n
 there:=fun b u q _=>⟨u,k b u q⟩
 tups:=fun b xs q=>by rw[jaC (jax q hn)];exact q
 frzs:=fun b u xs q=>by rw[jaC (jax q hn)];exact q
 tbls:=fun b ps q=>⟨#[],by rw[jaC (jax q hn),q];simp⟩
theorem Un.write (mu:Mut (H x)) (he:e=x\/H e=some (.own x)) (k:∀b u,b≠e->h.get? b=some u->h'.get? b=some u) (heo:∃u,h'.get? e=some u):Un fs ex H (upd H x o) h h':=by
 have hx:∀b,H b=none->b≠x:=fun b n z=>by subst z;rw[n] at mu;exact mu
 have hb:∀b,H b=none->b≠e:=fun b n z=>by
  subst z;rcases he with r | r
  ·exact hx b n r
  ·rw[n] at r;cases r
 have hm:∀b u,H b=some u->¬Mut (some u)->b≠x:=fun b u q nm z=>by subst z;rw[q] at mu;exact nm mu
 refine⟨fun b u q n _ _=>k b u (hb b n) q,fun b u q n _ _=>⟨u.slots,k b u (hb b n) q⟩,fun b u q n _=>by rw[jaC (hx b n)];exact n,fun b u q _=>?_,
  fun b xs q=>by rw[jaC (hm b _ q fun z=>z)];exact q,fun b u xs q=>by rw[jaC (hm b _ q fun z=>z)];exact q,fun b ps q=>⟨#[],by rw[jaC (hm b _ q fun z=>z),q];simp⟩⟩
 by_cases hbe:b=e
 ·subst hbe;exact heo
 ·exact⟨u,k b u hbe q⟩
theorem Un.mono (u:Un fs ex H H1 h h1) (hs:∀b∈fs,b∈fs') (hx:∀b∈ex,b∈ex'):Un fs' ex' H H1 h h1 :=
 ⟨fun b ob q n hb he=>u.keep b ob q n (fun z=>hb (hs b z)) fun z=>he (hx b z),fun _ _ q n _ he=>u.any q n fun z=>he (hx _ z),fun b ob q n he=>u.free b ob q n fun z=>he (hx b z),fun b ob q he=>u.there b ob q fun z=>he (hx b z),u.tups,u.frzs,u.tbls⟩
end
def trk (h:Heap) (H:Hp):List Addr:=(List.range h.objs.size).filter fun a=>(H a).isSome
def jkJ (h:Heap) (H:Hp):Heap:=PySem.W.hideAll h (trk h H)
theorem jiA (h:Heap) (H:Hp):(jkJ h H).objs.size=h.objs.size:=PySem.W.hideAll_size _ _
theorem jkK {h:Heap} {H:Hp} {b:Addr} {o:Obj} (e:h.get? b=some o) (n:H b=none):(jkJ h H).get? b=some o :=
 PySem.W.hideAll_get _ e fun hm=>by
  have q:(H b).isSome=true:=(xbw.mp hm).2;rw[n] at q;simp at q
theorem jmV {h:Heap} {H:Hp} {b:Addr} {o:Obj} (e:(jkJ h H).get? b=some o):h.get? b=some o/\H b=none:=by
  have e':h.get? b=some o:=PySem.W.of_hideAll (trk h H) e;refine⟨e',?_⟩;cases q:H b with
  | none=>rfl
  | some x =>
    have hm:b∈trk h H:=xbw.mpr ⟨xaY.mpr (Heap.lt_size e'),by simp [q]⟩;have z:(jkJ h H).get? b=none:=PySem.W.hideAll_none (trk h H) hm;rw[z] at e;cases e
def jmW (g h:Heap) (L:Addr):List (Addr × Obj):=(List.range h.objs.size).filterMap fun a=>if a=L\/(g.get? a).isSome=true then none else (h.get? a).map fun o=>(a,o)
def jbP (g h:Heap) (L d:Addr):List (Addr × Obj):=(jmW g h L).filter fun p=>decide (p.1≠d)
structure Mod (K:PySem.W.Frag) (mg:Str->Option Value) (base:Heap):Prop where
 kin:K.In base
 glob:base.Ns mainGlobals mg
 blt:∃mb,base.Ns builtinsNs mb/\∀x:Str,x≠"__name__"->mb x=bootBuiltins x
 nolimit:base.NoLimit
structure Cx where
 prog:Program
 w:World
 K:PySem.W.Frag
 mg:Str->Option Value
 base:Heap
 A:Around
 N:List Str
 s₀:Shared
 H₀:Hp
 env:Env
 outer:List Env
 stack:List Env
 ex:List Addr
 fn:Str->Bool
 calm:Bool
 pn:List (Addr × Obj)
 xe:Value->Shared->Prop
def frs (l:List Env):List Addr:=l.filterMap (·.frame)
abbrev Cx.fs (X:Cx):List Addr:=frs X.outer
def Vis (sc:Scope) (x:Str):Prop:=sc.names.lookup x=some .local\/sc.names.lookup x=some .cell\/sc.names.lookup x=some .free
def Loc (sc:Scope) (x:Str):Prop:=sc.names.lookup x=some .local\/sc.names.lookup x=some .cell
def Look (env:Env) (h:Heap) (m:Str->Option Value) (x:Str) (u:Value):Prop :=
 (env.kindOf x=some .local/\m x=some u)\/((env.kindOf x=some .cell\/env.kindOf x=some .free)/\∃c,env.cells.lookup x=some c/\h.IsCell c (some u))
structure Cx.Ok (X:Cx):Prop where
 mod:Mod X.K X.mg X.base
 kind:X.env.scope.kind=.function
 glob:X.env.globals=mainGlobals
 blt:X.env.builtins=builtinsNs
 above:X.s₀.heap.objs.size<=X.env.locals
 inj:∀x y c,X.env.cells.lookup x=some c->X.env.cells.lookup y=some c->x=y
 has:∀x,(X.env.kindOf x=some .cell\/X.env.kindOf x=some .free)->∃c,X.env.cells.lookup x=some c
 cab:∀x c,X.fn x=true->X.env.cells.lookup x=some c->X.s₀.heap.objs.size<=c
 hd:X.calm=true->X.A.handled=none
 frames:X.A.frames=some X.stack
 stk:X.stack=X.outer\/(X.stack=X.env::X.outer/\X.env.frame=some X.env.locals)
 exf:∀b∈X.ex,b≠X.env.locals/\∀x c,X.env.cells.lookup x=some c->c≠b
 bs:∀b o,X.base.get? b=some o->X.s₀.heap.get? b=some o/\X.H₀ b=none
 bsz:X.base.objs.size<=X.s₀.heap.objs.size
 noex:∀b o,X.base.get? b=some o->b∉X.ex
 exfs:∀b∈X.ex,b∉X.fs
 funs:X.s₀.heap.FunFrames X.base X.outer
 frf:∀b∈X.fs,X.H₀ b=none
structure Inv (X:Cx) (pins:List (Addr × Obj)) (σ:List (Option V)) (H:Hp) (s:Shared):Prop where
 ok:X.Ok
 os:s.os=X.s₀.os
 bare:AllBare s.gens
 base:Un X.fs X.ex X.H₀ H X.s₀.heap s.heap
 loc:∃m,s.heap.Ns X.env.locals m/\∀(i:Nat) (x:Str) (v:V),X.N[i]?=some x->σ[i]?=some (some v)->Vis X.env.scope x->∃u,RelV v u/\Look X.env s.heap m x u
 cell:∀x c,X.env.cells.lookup x=some c->∃v,s.heap.IsCell c v
 free:H X.env.locals=none
 freeC:∀x c,X.env.cells.lookup x=some c->H c=none
 pin:∀p∈X.pn++pins,s.heap.get? p.1=some p.2/\H p.1=none/\p.1≠X.env.locals/\p.1∉X.fs/\∀v,p.2.data≠.cell v
 hok:HOk X.prog X.w H s.heap
 len:σ.length=X.N.length
section
variable {X:Cx} {pins:List (Addr × Obj)} {σ:List (Option V)} {H H':Hp} {s:Shared} {h':Heap}
theorem Cx.Ok.nofr (ok:X.Ok) {b:Addr} {o:Obj} (e:X.base.get? b=some o):b∉X.fs:=fun hb=>by
 have:=(ok.funs.mem hb).1;rw[e] at this;cases this
theorem Inv.bs (I:Inv X pins σ H s):∀b o,X.base.get? b=some o->s.heap.get? b=some o/\H b=none:=fun b o e =>
 ⟨I.base.keep b o (I.ok.bs b o e).1 (I.ok.bs b o e).2 (I.ok.nofr e) (I.ok.noex b o e),I.base.free b o (I.ok.bs b o e).1 (I.ok.bs b o e).2 (I.ok.noex b o e)⟩
theorem Inv.bk (I:Inv X pins σ H s):∀b o,X.base.get? b=some o->s.heap.get? b=some o:=fun b o e=>(I.bs b o e).1
theorem Inv.mod (I:Inv X pins σ H s):Mod X.K X.mg X.base:=I.ok.mod
theorem Inv.kIn (I:Inv X pins σ H s):X.K.In s.heap:=I.ok.mod.kin.keeps I.bk
theorem Inv.nolimit (I:Inv X pins σ H s):s.heap.NoLimit:=I.ok.mod.nolimit.keeps I.bk
theorem Inv.fr (I:Inv X pins σ H s):∃m,Fr X.base X.env.locals s.heap m :=
 let ⟨m,hn,_⟩:=I.loc
 ⟨m,hn,I.bk,xaE I.ok.bsz I.ok.above⟩
theorem Inv.lt (I:Inv X pins σ H s):X.env.locals<s.heap.objs.size:=let ⟨_,hn,_⟩:=I.loc;hn.lt
theorem Inv.sz (I:Inv X pins σ H s):X.s₀.heap.objs.size<=s.heap.objs.size:=xaE I.ok.above (xa1 I.lt)
theorem Inv.nofs (I:Inv X pins σ H s) {a:Addr} (h:s.heap.objs.size<=a):a∉X.fs:=fun hb=>by
 obtain⟨_,o,ho,_⟩:=I.ok.funs.mem hb;exact absurd (xao (Heap.lt_size ho) (xaE I.sz h)) (xbh _)
theorem Inv.cne (I:Inv X pins σ H s):∀x c,X.env.cells.lookup x=some c->c≠X.env.locals:=fun x c e z=>by
 obtain⟨v,o,ho,hd⟩:=I.cell x c e;obtain⟨m,⟨o',es,ep,ho',hd',_⟩,_⟩:=I.loc;rw[z,ho'] at ho;cases ho;rw[hd'] at hd;cases hd
theorem Inv.funs (I:Inv X pins σ H s):s.heap.FunFrames X.base X.outer:=by
  have all:∀(l:List Env),(∀b∈frs l,b∈X.fs)->X.s₀.heap.FunFrames X.base l->s.heap.FunFrames X.base l:=by
    intro l;induction l with
    | nil=>intro _ _;trivial
    | cons env r ih =>
      intro hs hl;obtain⟨hk,⟨L,o,hf,hn,ho,hd⟩,hr⟩:=hl;have hL:L∈X.fs:=hs L (by unfold frs;rw[xbK,hf];exact xba);obtain⟨sl,e⟩:=I.base.slot L o ho (I.ok.frf L hL) hL fun z=>I.ok.exfs L z hL;exact⟨hk,⟨L,_,hf,hn,e,hd⟩,ih (fun b hb=>hs b (by unfold frs;rw[xbK,hf];exact xas _ hb)) hr⟩
  exact all X.outer (fun _ hb=>hb) I.ok.funs
theorem Inv.stack (I:Inv X pins σ H s):s.heap.FunFrames X.base X.stack:=by
 rcases I.ok.stk with e | ⟨e,hf⟩
 ·rw[e];exact I.funs
 ·rw[e];obtain⟨m,hn,_⟩:=I.loc;refine .cons (by rw[I.ok.kind];decide) hf hn ?_ I.funs;exact Heap.get?_none_of_le (xaE I.ok.bsz I.ok.above)
theorem Inv.stkSub (I:Inv X pins σ H s):∀b∈frs X.stack,b∈X.env.locals::X.fs:=fun b hb=>by
 rcases I.ok.stk with e | ⟨e,hf⟩
 ·rw[e] at hb;exact xas _ hb
 ·rw[e] at hb;unfold frs at hb;rw[xbK,hf] at hb;exact hb
theorem Inv.stkFree (I:Inv X pins σ H s):∀b∈frs X.stack,H b=none:=fun b hb=>by
 rcases xap.mp (I.stkSub b hb) with e | hb
 ·rw[e];exact I.free
 ·obtain⟨_,o,ho,_⟩:=I.ok.funs.mem hb;exact I.base.free b o ho (I.ok.frf b hb) fun z=>I.ok.exfs b z hb
theorem Inv.step {g':Array GenState} {t':Nat} {d':Drawn} {ch:List Addr} (I:Inv X pins σ H s)
  (hch:∀b∈ch,(b∈X.ex\/X.s₀.heap.objs.size<=b)/\b≠X.env.locals/\(∀x c,X.env.cells.lookup x=some c->c≠b)/\∀p∈X.pn++pins,p.1≠b)
  (keep:∀b o,b≠X.env.locals->b∉X.fs->b∉ch->s.heap.get? b=some o->H b=none->h'.get? b=some o)
  (slot:∀b o,b≠X.env.locals->b∈X.fs->b∉ch->s.heap.get? b=some o->H b=none->∃sl,h'.get? b=some { o with slots:=sl }) (free:∀b o,b∉ch->s.heap.get? b=some o->H b=none->H' b=none)
  (there:∀b o,b∉ch->s.heap.get? b=some o->∃o',h'.get? b=some o')
  (tups:∀b xs,H b=some (.tup xs)->H' b=some (.tup xs)) (frzs:∀b o u,H b=some (.frz o u)->H' b=some (.frz o u)) (tbls:∀b ps,H b=some (.tbl ps)->∃more,H' b=some (.tbl (ps++more)))
  (ns:∀m,s.heap.Ns X.env.locals m->h'.Ns X.env.locals m) (hok:HOk X.prog X.w H' h') (hg:AllBare g') :
  Inv X pins σ H' { s with heap:=h',gens:=g',drawn:=d',toks:=t' }:=by
 have neL:∀b o,X.s₀.heap.get? b=some o->b≠X.env.locals:=fun b o e=>xan (xao (Heap.lt_size e) I.ok.above);have neC:∀b o,X.s₀.heap.get? b=some o->b∉X.ex->b∉ch:=fun b o e hx hb=>by
  rcases (hch b hb).1 with z | z
  ·exact hx z
  ·exact absurd (xao (Heap.lt_size e) z) (xbh _)
 have cellK:∀x c,X.env.cells.lookup x=some c->∀v,s.heap.IsCell c v->h'.IsCell c v:=fun x c e v ⟨o,ho,hd⟩=>by
  have nch:c∉ch:=fun z=>(hch c z).2.2.1 x c e rfl;by_cases hc:c∈X.fs
  ·obtain⟨sl,q⟩:=slot c o (I.cne x c e) hc nch ho (I.freeC x c e);exact⟨_,q,hd⟩
  ·exact⟨o,keep c o (I.cne x c e) hc nch ho (I.freeC x c e),hd⟩
 refine⟨I.ok,I.os,hg,⟨fun b o e n hb hx=>?_,fun b o e n hb hx=>?_,fun b o e n hx=>?_,fun b o e hx=>?_,fun b xs e=>tups b xs (I.base.tups b xs e),fun b o xs e=>frzs b o xs (I.base.frzs b o xs e),fun b ps e=>?_⟩,?_,fun x c e=>?_,?_,fun x c e=>?_,fun p hp=>?_,hok,I.len⟩
 ·exact keep b o (neL b o e) hb (neC b o e hx) (I.base.keep b o e n hb hx) (I.base.free b o e n hx)
 ·obtain⟨sl,e1⟩:=I.base.slot b o e n hb hx;obtain⟨sl',e2⟩:=slot b _ (neL b o e) hb (neC b o e hx) e1 (I.base.free b o e n hx);exact⟨sl',e2⟩
 ·obtain⟨o',e1⟩:=I.base.there b o e hx;exact free b o' (neC b o e hx) e1 (I.base.free b o e n hx)
 ·obtain⟨o',e1⟩:=I.base.there b o e hx;exact there b o' (neC b o e hx) e1
 ·obtain⟨m1,e1⟩:=I.base.tbls b ps e;obtain⟨m2,e2⟩:=tbls b _ e1;exact⟨m1++m2,by rw[e2,Array.append_assoc]⟩
 ·obtain⟨m,hn,hl⟩:=I.loc;refine⟨m,ns m hn,fun i x v e1 e2 e3=>?_⟩;obtain⟨u,r,l⟩:=hl i x v e1 e2 e3;refine⟨u,r,?_⟩;rcases l with l | ⟨k,c,e,z⟩
  ·exact .inl l
  ·exact .inr ⟨k,c,e,cellK x c e _ z⟩
 ·obtain⟨v,z⟩:=I.cell x c e;exact⟨v,cellK x c e v z⟩
 ·obtain⟨m,⟨o,_,_,ho,_⟩,_⟩:=I.loc;exact free _ o (fun z=>(hch _ z).2.1 rfl) ho I.free
 ·obtain⟨v,o,ho,hd⟩:=I.cell x c e;exact free c o (fun z=>(hch c z).2.2.1 x c e rfl) ho (I.freeC x c e)
 ·obtain⟨e,n,ne,nf,d⟩:=I.pin p hp;have nch:p.1∉ch:=fun z=>(hch p.1 z).2.2.2 p hp rfl;exact⟨keep p.1 p.2 ne nf nch e n,free p.1 p.2 nch e n,ne,nf,d⟩
theorem Inv.un {t':Nat} (I:Inv X pins σ H s) (u:Un X.fs [] H H' s.heap h') (hok:HOk X.prog X.w H' h'):Inv X pins σ H' { s with heap:=h',toks:=t' }:=by
 obtain⟨m,⟨o,es,ep,ho,r⟩,_⟩:=id I.loc;obtain⟨sl,hL⟩:=u.any ho I.free (by simp);exact I.step (g':=s.gens) (d':=s.drawn) (ch:=[]) (fun _ z=>nomatch z) (fun b o _ hb _ e n=>u.keep b o e n hb (by simp)) (fun b o _ hb _ e n=>u.slot b o e n hb (by simp)) (fun b o _ e n=>u.free b o e n (by simp)) (fun b o _ e=>u.there b o e (by simp)) u.tups u.frzs u.tbls (fun m' hm=>by
  obtain⟨o',es',ep',ho',r'⟩:=hm;rw[ho] at ho';cases ho';exact⟨_,es',ep',hL,r'⟩) hok I.bare
theorem Inv.call {g':Array GenState} {t':Nat} {d':Drawn} {ch:List Addr} (I:Inv X pins σ H s) (u:Un (frs X.stack) ch H H' s.heap h') (hok:HOk X.prog X.w H' h') (hg:AllBare g')
  (hch:∀b∈ch,(b∈X.ex\/X.s₀.heap.objs.size<=b)/\b≠X.env.locals/\(∀x c,X.env.cells.lookup x=some c->c≠b)/\∀p∈X.pn++pins,p.1≠b) :
  Inv X pins σ H' { s with heap:=h',gens:=g',drawn:=d',toks:=t' }:=by
 obtain⟨m,⟨o,es,ep,ho,r⟩,_⟩:=id I.loc;obtain⟨sl,hL⟩:=u.any ho I.free fun z=>(hch _ z).2.1 rfl;exact I.step (ch:=ch) hch (fun b o hL hb hc e n=>u.keep b o e n (fun z=>(xap.mp (I.stkSub b z)).elim hL hb) hc) (fun b o _ _ hc e n=>u.any e n hc) (fun b o hc e n=>u.free b o e n hc) (fun b o hc e=>u.there b o e hc) u.tups u.frzs u.tbls (fun m' hm=>by
  obtain⟨o',es',ep',ho',r'⟩:=hm;rw[ho] at ho';cases ho';exact⟨_,es',ep',hL,r'⟩) hok hg
theorem Inv.turned {t':Nat} {it:Addr} (I:Inv X pins σ H s) (k:∀b o,b≠it->s.heap.get? b=some o->h'.get? b=some o) (hn:H it=none) (hL:it≠X.env.locals)
  (h1:it∈X.ex\/X.s₀.heap.objs.size<=it) (h2:∀x c,X.env.cells.lookup x=some c->c≠it) (h3:∀p∈X.pn++pins,p.1≠it):Inv X pins σ H { s with heap:=h',toks:=t' }:=by
 have nit:∀b u,H b=some u->b≠it:=fun b u e z=>by rw[z,hn] at e;cases e
 refine I.step (g':=s.gens) (d':=s.drawn) (ch:=[it]) (fun b hb=>?_) (fun b o _ _ hc e _=>k b o (fun z=>hc (by simp [z])) e) (fun b o _ _ hc e _=>⟨o.slots,k b o (fun z=>hc (by simp [z])) e⟩) (fun _ _ _ _ n=>n)
  (fun b o hc e=>⟨o,k b o (fun z=>hc (by simp [z])) e⟩) (fun _ _ e=>e) (fun _ _ _ e=>e) (fun b ps e=>⟨#[],by rw[e];simp⟩) (fun m hm=>?_) (fun b u e=>?_) I.bare
 ·have e:b=it:=by simpa using hb
  subst e;exact⟨h1,hL,h2,h3⟩
 ·obtain⟨o,es,ep,ho,r⟩:=hm;exact⟨o,es,ep,k _ o (Ne.symm hL) ho,r⟩
 ·refine (I.hok b u e).stay (fun c v hc q=>k c v ?_ q) (fun _ q=>q) fun _ _ q=>q;rcases hc with z | z
  ·rw[z];exact nit b u e
  ·exact nit c _ z
theorem Inv.tok (I:Inv X pins σ H s) (t:Nat):Inv X pins σ H { s with toks:=t }:=I.un (h':=s.heap) (t':=t) Un.refl I.hok
theorem Inv.kept {t':Nat} (I:Inv X pins σ H s) (k:∀b u,s.heap.get? b=some u->h'.get? b=some u):Inv X pins σ H { s with heap:=h',toks:=t' }:=I.un (Un.kept k) (I.hok.kept k)
theorem Inv.laid {a:Addr} {o:HO} {t':Nat} (I:Inv X pins σ H s) (k:∀b u,s.heap.get? b=some u->h'.get? b=some u) (hp:s.heap.objs.size<=a) (new:ObjOk X.prog X.w (upd H a o) h' a o) :
  Inv X pins σ (upd H a o) { s with heap:=h',toks:=t' }:=I.un (Un.laid k hp (I.hok.fresh hp)) (I.hok.laid k hp new)
theorem Inv.write {x e:Addr} {o:HO} {t':Nat} (I:Inv X pins σ H s) (mu:Mut (H x)) (he:e=x\/H e=some (.own x)) (k:∀b u,b≠e->s.heap.get? b=some u->h'.get? b=some u) (heo:∃u,h'.get? e=some u)
  (new:ObjOk X.prog X.w (upd H x o) h' x o):Inv X pins σ (upd H x o) { s with heap:=h',toks:=t' }:=I.un (Un.write mu he k heo) (I.hok.write mu he k heo new)
theorem Inv.pins_of {pins':List (Addr × Obj)} (I:Inv X pins σ H s) (h:∀p∈pins',s.heap.get? p.1=some p.2/\H p.1=none/\p.1≠X.env.locals/\p.1∉X.fs/\∀v,p.2.data≠.cell v):Inv X pins' σ H s :=
 ⟨I.ok,I.os,I.bare,I.base,I.loc,I.cell,I.free,I.freeC,fun p hp=>(xaz.mp hp).elim (fun z=>I.pin p (xaK _ z)) (h p),I.hok,I.len⟩
theorem jg0 {N:List Str} (hN:N.Nodup) {i j:Nat} {x:Str} (a:N[i]?=some x) (b:N[j]?=some x):i=j:=by
 obtain⟨h1,e1⟩:=xag.mp a;obtain⟨h2,e2⟩:=xag.mp b;exact (List.getElem_inj hN).mp (e1.trans e2.symm)
theorem jei {M:Model} {A:Around} {E:Value->Shared->Prop} {i:Nat} {x:Str} {v:V} {u:Value} {Q:Unit->Shared->Prop} (I:Inv X pins σ H s) (hN:X.N.Nodup) (hi:X.N[i]?=some x) (hx:Loc X.env.scope x) (r:RelV v u)
  (h:∀s',Inv X pins (σ.set i (some v)) H s'->(∃a,Heap.SameBut a s.heap s'.heap/\(a=X.env.locals\/X.env.cells.lookup x=some a))->Q () s') (hf:X.fn x=true\/X.env.scope.names.lookup x=some .local:=by first | exact .inl rfl | exact .inr rfl | assumption):wpAny M A (storeName X.env x u) Q E s:=by
 obtain⟨m,hn,hl⟩:=id I.loc;have hcls:(X.env.scope.kind==.class||(X.env.scope.kind==.module&&X.env.locals != X.env.globals))=false:=by rw[I.ok.kind];rfl
 have hiσ:i<σ.length:=by rw[I.len];exact (xag.mp hi).1
 have cne:=I.cne;have tracked:∀{a:Addr} {h':Heap},(∃o,s.heap.get? a=some o/\H a=none)->Heap.SameBut a s.heap h'->HOk X.prog X.w H h':=fun {a h'} ha hs b ob e=>by
  obtain⟨_,_,hfree⟩:=ha;refine (I.hok b ob e).stay (fun c w' hc q=>(hs.2 c ?_).trans q) (fun _ q=>q) fun _ _ q=>q;rintro rfl;rcases hc with rfl | hc
  ·rw[hfree] at e;cases e
  ·rw[hfree] at hc;cases hc
 rcases hx with hk | hk
 ·refine wpAny_storeName_local hk hn (fun h' hn' hs=>?_) hcls;obtain⟨oL,_,_,hoL,_⟩:=id hn;refine h _ ⟨I.ok,I.os,I.bare,⟨fun b o e n hb hx=>?_,fun b o e n hb hx=>?_,I.base.free,fun b o e hx=>?_,I.base.tups,I.base.frzs,I.base.tbls⟩,⟨_,hn',fun j y v' e1 e2 e3=>?_⟩,fun y c e=>?_,I.free,I.freeC,fun p hp=>?_,tracked ⟨oL,hoL,I.free⟩ hs,by simpa using I.len⟩ ⟨_,hs,.inl rfl⟩
  ·exact (hs.2 b (xan (xao (Heap.lt_size e) I.ok.above))).trans (I.base.keep b o e n hb hx)
  ·obtain⟨sl,e1⟩:=I.base.slot b o e n hb hx;exact⟨sl,(hs.2 b (xan (xao (Heap.lt_size e) I.ok.above))).trans e1⟩
  ·obtain⟨o',e1⟩:=I.base.there b o e hx;exact⟨o',(hs.2 b (xan (xao (Heap.lt_size e) I.ok.above))).trans e1⟩
  ·by_cases hj:j=i
   ·subst hj;rw[hi] at e1;cases e1;rw[List.getElem?_set_self hiσ] at e2;cases e2;exact⟨u,r,.inl ⟨hk,by simp⟩⟩
   ·rw[List.getElem?_set_ne (Ne.symm hj)] at e2;obtain⟨u',r',q⟩:=hl j y v' e1 e2 e3;refine⟨u',r',?_⟩;rcases q with ⟨k,e⟩ | ⟨k,c,e,z⟩
    ·refine .inl ⟨k,?_⟩;have:y≠x:=fun e=>hj (jg0 hN e1 (e▸hi));simp [this,e]
    ·exact .inr ⟨k,c,e,z.sameBut hs (cne y c e)⟩
  ·obtain⟨w',z⟩:=I.cell y c e;exact⟨w',z.sameBut hs (cne y c e)⟩
  ·obtain⟨e,n,ne,nf,d⟩:=I.pin p hp;exact⟨(hs.2 p.1 ne).trans e,n,ne,nf,d⟩
 ·have hfn:X.fn x=true:=by
   rcases hf with z | z
   ·exact z
   ·rw[z] at hk;cases hk
  obtain⟨c,hc⟩:=I.ok.has x (.inl hk);obtain⟨w',z⟩:=I.cell x c hc;refine wpAny_storeName_cell I.ok.kind hk hc z (fun h' hc' hs=>?_);obtain⟨oc,hoc,hocd⟩:=id z;refine h { s with heap:=h' } ⟨I.ok,I.os,I.bare,⟨fun b o e n hb hx=>?_,fun b o e n hb hx=>?_,I.base.free,fun b o e hx=>?_,I.base.tups,I.base.frzs,I.base.tbls⟩,⟨m,hn.sameBut hs (Ne.symm (cne x c hc)),fun j y v' e1 e2 e3=>?_⟩,fun y c' e=>?_,I.free,I.freeC,fun p hp=>?_,tracked ⟨oc,hoc,I.freeC x c hc⟩ hs,by simpa using I.len⟩ ⟨c,hs,.inr hc⟩
  ·exact (hs.2 b (xan (xao (Heap.lt_size e) (I.ok.cab x c hfn hc)))).trans (I.base.keep b o e n hb hx)
  ·obtain⟨sl,e1⟩:=I.base.slot b o e n hb hx;exact⟨sl,(hs.2 b (xan (xao (Heap.lt_size e) (I.ok.cab x c hfn hc)))).trans e1⟩
  ·obtain⟨o',e1⟩:=I.base.there b o e hx;exact⟨o',(hs.2 b (xan (xao (Heap.lt_size e) (I.ok.cab x c hfn hc)))).trans e1⟩
  ·by_cases hj:j=i
   ·subst hj;rw[hi] at e1;cases e1;rw[List.getElem?_set_self hiσ] at e2;cases e2;exact⟨u,r,.inr ⟨.inl hk,c,hc,hc'⟩⟩
   ·rw[List.getElem?_set_ne (Ne.symm hj)] at e2;obtain⟨u',r',q⟩:=hl j y v' e1 e2 e3;refine⟨u',r',?_⟩;rcases q with q | ⟨k,c',e,z'⟩
    ·exact .inl q
    ·refine .inr ⟨k,c',e,z'.sameBut hs ?_⟩;rintro rfl;exact hj (jg0 hN e1 (I.ok.inj _ _ _ e hc▸hi))
  ·by_cases hcc:c'=c
   ·subst hcc;exact⟨_,hc'⟩
   ·obtain⟨w2,z2⟩:=I.cell y c' e;exact⟨w2,z2.sameBut hs hcc⟩
  ·obtain⟨e,n,ne,nf,d⟩:=I.pin p hp;refine⟨(hs.2 p.1 ?_).trans e,n,ne,nf,d⟩;intro q;rw[q,hoc] at e;have q':oc=p.2:=Option.some.inj e;exact d w' (by rw[<- q'];exact hocd)
theorem jed {M:Model} {A:Around} {E:Value->Shared->Prop} {i:Nat} {x:Str} {v:V} {u:Value} {Q:Unit->Shared->Prop} (I:Inv X pins σ H s) (hN:X.N.Nodup) (hi:X.N[i]?=some x) (hx:Loc X.env.scope x) (r:RelV v u)
  (h:∀s',Inv X pins (σ.set i (some v)) H s'->Q () s') (hf:X.fn x=true\/X.env.scope.names.lookup x=some .local:=by first | exact .inl rfl | exact .inr rfl | assumption):wpAny M A (storeName X.env x u) Q E s :=
 jei I hN hi hx r (fun s' I' _=>h s' I') hf
theorem Inv.call' {s':Shared} {ch:List Addr} (I:Inv X pins σ H s) (ho:s'.os=s.os) (u:Un (frs X.stack) ch H H' s.heap s'.heap) (hok:HOk X.prog X.w H' s'.heap) (hg:AllBare s'.gens)
  (hch:∀b∈ch,(b∈X.ex\/X.s₀.heap.objs.size<=b)/\b≠X.env.locals/\(∀x c,X.env.cells.lookup x=some c->c≠b)/\∀p∈X.pn++pins,p.1≠b):Inv X pins σ H' s':=by
 obtain⟨h',g',d',t',o'⟩:=s';have e:o'=s.os:=ho;subst e;exact I.call (g':=g') (t':=t') (d':=d') u hok hg hch
end
abbrev XK:=Value->Option Addr->Hp->Prop
abbrev St:=List (Option V)
abbrev VK:=V->Hp->Prop
abbrev TE:=St->Hp->VK->Prop
abbrev TT:=St->Hp->(Bool->Hp->Prop)->Prop
abbrev TA:=St->Hp->(List V->Hp->Prop)->Prop
structure Ends where
 nx:St->Hp->Prop
 rt:VK
 bk:St->Hp->Prop:=fun _ _=>False
 ct:St->Hp->Prop:=fun _ _=>False
abbrev TS:=Ends->St->Hp->Prop
def EP (X:Cx) (pins:List (Addr × Obj)) (σ:St) (Q:VK) (u:Value) (s':Shared):Prop:=∃v H',Inv X pins σ H' s'/\RelV v u/\Q v H'
def TP (X:Cx) (pins:List (Addr × Obj)) (σ:St) (Q:Bool->Hp->Prop) (b:Bool) (s':Shared):Prop:=∃H',Inv X pins σ H' s'/\Q b H'
def AP (X:Cx) (pins:List (Addr × Obj)) (σ:St) (Q:List V->Hp->Prop) (us:List Value) (s':Shared):Prop:=∃vs H',Inv X pins σ H' s'/\Vals vs us/\Q vs H'
def SP (X:Cx) (pins:List (Addr × Obj)) (D:Ends) (f:Flow) (s':Shared):Prop :=
 match f with
 | .next=>∃σ' H',Inv X pins σ' H' s'/\D.nx σ' H'
 | .brk=>∃σ' H',Inv X pins σ' H' s'/\D.bk σ' H'
 | .cont=>∃σ' H',Inv X pins σ' H' s'/\D.ct σ' H'
 | .ret u=>∃v σ' H',Inv X pins σ' H' s'/\RelV v u/\D.rt v H'
def PE (X:Cx) (e:Expr) (t:TE):Prop :=
 ∀(pins:List (Addr × Obj)) (s:Shared) (σ:St) (H:Hp) (Q:VK),Inv X pins σ H s->t σ H Q->wpAny (model X.prog X.w) X.A (eval e X.env) (EP X pins σ Q) X.xe s
def PT (X:Cx) (e:Expr) (t:TT):Prop :=
 ∀(pins:List (Addr × Obj)) (s:Shared) (σ:St) (H:Hp) (Q:Bool->Hp->Prop),Inv X pins σ H s->t σ H Q->wpAny (model X.prog X.w) X.A (isTrue e X.env (eval e X.env)) (TP X pins σ Q) X.xe s
def PW (X:Cx) (e:Expr) (t:TT):Prop :=
 ∀(whole:Sem Value) (pins:List (Addr × Obj)) (s:Shared) (σ:St) (H:Hp) (Q:Bool->Hp->Prop),Inv X pins σ H s->t σ H Q->wpAny (model X.prog X.w) X.A (isTrue e X.env whole) (TP X pins σ Q) X.xe s
theorem PW.pt {X:Cx} {e:Expr} {t:TT} (h:PW X e t):PT X e t:=h _
def PA (X:Cx) (es:List Expr) (t:TA):Prop :=
 ∀(pos:Pos) (pins:List (Addr × Obj)) (s:Shared) (σ:St) (H:Hp) (Q:List V->Hp->Prop),Inv X pins σ H s->t σ H Q->wpAny (model X.prog X.w) X.A (spliced (backTo pos (starEach es X.env))) (AP X pins σ Q) X.xe s
def PS (X:Cx) (st:Stmt) (t:TS):Prop :=
 ∀(pins:List (Addr × Obj)) (s:Shared) (σ:St) (H:Hp) (D:Ends),Inv X pins σ H s->t D σ H->wpAny (model X.prog X.w) X.A (exec st X.env) (SP X pins D) X.xe s
def PSs (X:Cx) (st:List Stmt) (t:TS):Prop :=
 ∀(pins:List (Addr × Obj)) (s:Shared) (σ:St) (H:Hp) (D:Ends),Inv X pins σ H s->t D σ H->wpAny (model X.prog X.w) X.A (execs st X.env) (SP X pins D) X.xe s
theorem thn {α:Type} {t:Sem α} {Q Q':α->Shared->Prop} {M:Model} {A:Around} {E:Value->Shared->Prop} {s:Shared} (h:wpAny M A t Q E s) (hQ:∀a s,Q a s->Q' a s):wpAny M A t Q' E s:=wpAny_mono h hQ fun _ _ x=>x
section
variable {X:Cx}
def jl0 (i:Nat):TE:=fun σ H Q=>∃v,σ[i]?=some (some v)/\Q v H
def tC (v:V):TE:=fun _ H Q=>Q v H
theorem joC {i:Nat} {x:Str} {pos:Pos} (hN:X.N[i]?=some x) (hv:Vis X.env.scope x) (hd:(x==("__debug__":Str))=false:=by decide) (hcd:(x==("__classdict__":Str))=false:=by decide):PE X (.Name x pos) (jl0 i):=by
 intro pins s σ H Q I h;obtain⟨v,e,h⟩:=h;obtain⟨m,hn,hl⟩:=I.loc;obtain⟨u,r,l⟩:=hl i x v hN e hv;have fin:EP X pins σ Q u s:=⟨v,H,I,r,h⟩;rcases l with ⟨hk,hm⟩ | ⟨hk,c,hc,hcell⟩
 ·exact wpAny_Name (wpAny_loadName_local I.ok.kind hk hn hm fin) hd
 ·rcases hk with hk | hk
  ·exact wpAny_Name (wpAny_loadName_cell I.ok.kind hk hc hcell fin) hd
  ·exact wpAny_Name (wpAny_loadName_free I.ok.kind hk hc hcell fin hcd) hd
theorem jab {i j pos}:PE X (.Constant (.int i) j pos) (tC (.int i)):=fun _ _ _ H _ I h=>wpAny_Constant_int ⟨.int i,H,I.tok _,⟨_,rfl⟩,h⟩
theorem jb6 {b j pos}:PE X (.Constant (.bool b) j pos) (tC (.bl b)):=fun _ _ _ H _ I h=>Constant_bool ⟨.bl b,H,I,rfl,h⟩
theorem jbr {j pos}:PE X (.Constant .none j pos) (tC .non):=fun _ _ _ H _ I h=>Constant_none ⟨.non,H,I,rfl,h⟩
def Gl (X:Cx) (x:Str):Prop:=X.env.kindOf x=some .globalImplicit
theorem jiB {E:Value->Shared->Prop} {pins:List (Addr × Obj)} {s:Shared} {σ:St} {H:Hp} {x:Str} {u:Value} {pos:Pos} {Q:Value->Shared->Prop} (I:Inv X pins σ H s) (hg:Gl X x) (hm:X.mg x=some u) (h:Q u s)
  (hd:(x==("__debug__":Str))=false:=by decide):wpAny (model X.prog X.w) X.A (eval (.Name x pos) X.env) Q E s :=
 Calls.Name_function_global I.ok.kind hg (Calls.loadGlobal_global (by rw[I.ok.glob];exact I.mod.glob.keeps I.bk) hm h) hd
theorem jej {E:Value->Shared->Prop} {pins:List (Addr × Obj)} {s:Shared} {σ:St} {H:Hp} {x:Str} {u:Value} {pos:Pos} {Q:Value->Shared->Prop} (I:Inv X pins σ H s) (hg:Gl X x) (hm:X.mg x=none) (hv:bootBuiltins x=some u) (h:Q u s)
  (hn:x≠"__name__":=by decide) (hd:(x==("__debug__":Str))=false:=by decide):wpAny (model X.prog X.w) X.A (eval (.Name x pos) X.env) Q E s:=by
 obtain⟨mb,h1,h2⟩:=I.mod.blt;exact Calls.Name_function_global I.ok.kind hg (Calls.loadGlobal_builtin (by rw[I.ok.glob];exact I.mod.glob.keeps I.bk) hm (by rw[I.ok.blt];exact h1.keeps I.bk) ((h2 x hn).trans hv) h) hd
theorem jiC {x:Str} {v:V} {u:Value} {pos:Pos} (hg:Gl X x) (hm:X.mg x=some u) (r:RelV v u) (hd:(x==("__debug__":Str))=false:=by decide):PE X (.Name x pos) (tC v) :=
 fun _ _ _ H _ I h=>jiB I hg hm ⟨v,H,I,r,h⟩ hd
theorem jcB {x:Str} {v:V} {u:Value} {pos:Pos} (hg:Gl X x) (hm:X.mg x=none) (hv:bootBuiltins x=some u) (r:RelV v u) (hn:x≠"__name__":=by decide) (hd:(x==("__debug__":Str))=false:=by decide):PE X (.Name x pos) (tC v) :=
 fun _ _ _ H _ I h=>jej I hg hm hv ⟨v,H,I,r,h⟩ hn hd
variable {a b:Expr} {ta tb:TE} {pos:Pos}
def tB (t:TE):TT:=fun σ H Q=>t σ H fun x H1=>∃c,x=.bl c/\Q c H1
theorem jbB {e:Expr} {t:TE} (h:PE X e t) (he:∀whole,isTrue e X.env whole=(do let v <- whole;standAt e.pos;holding [v] (truthy v)):=by intro _;rfl):PT X e (tB t):=by
 intro pins s σ H Q I hw;refine isTrue_plain (thn (h pins s σ H _ I hw) fun v s1 ⟨x,H1,I1,r1,q1⟩=>?_) (he _);obtain⟨d,rfl,q⟩:=q1;cases r1;exact wpAny_truthy_bool ⟨H1,I1,q⟩
variable {tA tB':TT} {jbP:List Expr}
def joD (t u:TT):TT:=fun σ H Q=>t σ H fun c H1=>if c=true then u σ H1 Q else Q false H1
def tOr (t u:TT):TT:=fun σ H Q=>t σ H fun c H1=>if c=true then Q true H1 else u σ H1 Q
def joE (t:TT):TT:=fun σ H Q=>t σ H fun c H1=>Q (!c) H1
theorem jfg (ha:PT X a tA):PW X (.BoolOp .And [a] pos) tA:=by
 intro wh pins s σ H Q I h;refine isTrue_and (thn (ha pins s σ H Q I h) fun c s1 e=>?_);cases c with
 | true=>exact isTrue_and_nil e
 | false=>exact e
theorem jc6 (ha:PT X a tA):PW X (.BoolOp .Or [a] pos) tA:=by
 intro wh pins s σ H Q I h;refine isTrue_or (thn (ha pins s σ H Q I h) fun c s1 e=>?_);cases c with
 | false=>exact isTrue_or_nil e
 | true=>exact e
theorem jfX (ha:PT X a tA) (hb:PW X (.BoolOp .And (b::jbP) pos) tB'):PW X (.BoolOp .And (a::b::jbP) pos) (joD tA tB'):=by
 intro wh pins s σ H Q I h;refine isTrue_and (thn (ha pins s σ H _ I h) fun c s1 ⟨H1,I1,q1⟩=>?_);cases c with
 | true=>exact hb wh pins s1 σ H1 Q I1 q1
 | false=>exact⟨H1,I1,q1⟩
theorem jds (ha:PT X a tA) (hb:PW X (.BoolOp .Or (b::jbP) pos) tB'):PW X (.BoolOp .Or (a::b::jbP) pos) (tOr tA tB'):=by
 intro wh pins s σ H Q I h;refine isTrue_or (thn (ha pins s σ H _ I h) fun c s1 ⟨H1,I1,q1⟩=>?_);cases c with
 | true=>exact⟨H1,I1,q1⟩
 | false=>exact hb wh pins s1 σ H1 Q I1 q1
theorem jb0 (ha:PT X a tA):PT X (.UnaryOp .Not a pos) (joE tA):=by
 intro pins s σ H Q I h;exact isTrue_not (ha pins s σ H (fun c H1=>Q (!c) H1) I h)
def jiD (ta tb:TE):TE:=fun σ H Q=>ta σ H fun x H1=>∃c,x=.bl c/\if c=true then tb σ H1 Q else Q (.bl false) H1
def tOrV (ta tb:TE):TE:=fun σ H Q=>ta σ H fun x H1=>∃c,x=.bl c/\if c=true then Q (.bl true) H1 else tb σ H1 Q
def jiE (ta:TE):TE:=fun σ H Q=>ta σ H fun x H1=>∃c,x=.bl c/\Q (.bl (!c)) H1
theorem jeV {op} {t:TE} (h:PE X a t):PE X (.BoolOp op [a] pos) t:=fun pins s σ H Q I hw=>BoolOp_one (h pins s σ H Q I hw)
theorem jek (ha:PE X a ta) (hb:PE X (.BoolOp .And (b::jbP) pos) tb):PE X (.BoolOp .And (a::b::jbP) pos) (jiD ta tb):=by
 intro pins s σ H Q I h;refine BoolOp_and (thn (ha pins s σ H _ I h) fun v s1 ⟨x,H1,I1,r1,q1⟩=>?_);obtain⟨c,rfl,q1⟩:=q1;cases r1;refine wpAny_truthy_bool ?_;cases c with
 | true=>exact hb pins s1 σ H1 Q I1 q1
 | false=>exact⟨.bl false,H1,I1,rfl,q1⟩
theorem joF (ha:PE X a ta):PE X (.UnaryOp .Not a pos) (jiE ta):=by
 intro pins s σ H Q I h;refine UnaryOp_ (thn (ha pins s σ H _ I h) fun v s1 ⟨x,H1,I1,r1,q1⟩=>?_);obtain⟨c,rfl,q1⟩:=q1;cases r1;exact not_of (wpAny_truthy_bool ⟨.bl (!c),H1,I1,rfl,q1⟩)
def tIf (t:TT) (ta tb:TE):TE:=fun σ H Q=>t σ H fun c H1=>if c=true then ta σ H1 Q else tb σ H1 Q
theorem jfh {c:Expr} (hc:PT X c tA) (ha:PE X a ta) (hb:PE X b tb):PE X (.IfExp c a b pos) (tIf tA ta tb):=by
 intro pins s σ H Q I h;refine wpAny_IfExp (thn (hc pins s σ H _ I h) fun d s1 ⟨H1,I1,q1⟩=>?_);cases d with
 | true=>exact ha pins s1 σ H1 Q I1 q1
 | false=>exact hb pins s1 σ H1 Q I1 q1
end
def SqL (K:PySem.W.Frag) (H:Hp) (a:Addr) (xs:List V):Prop :=
 Rd H a (.lst xs) \/
  ∃(o:Obj) (its:Array Value) (n:Nat),K.lookup a=some o/\o.cls=.type "list"/\o.dict=none/\o.data=.seq its n/\its.size<=sizeLine/\Vals xs its.toList
def SqT (K:PySem.W.Frag) (H:Hp) (a:Addr) (xs:List V):Prop :=
 Rd H a (.tup xs) \/
  ∃(o:Obj) (its:Array Value) (n:Nat),K.lookup a=some o/\o.cls=.type "tuple"/\o.data=.seq its n/\its.size<=sizeLine/\Vals xs its.toList
def absV:Value->Option V
 | .none=>some .non
 | .bool b=>some (.bl b)
 | .int i _=>some (.int i)
 | .str x _=>some (.str x)
 | .bytes b _=>some (.byt b)
 | .float b _=>some (.flt b)
 | .ref a=>some (.ref a)
 | .type n=>some (.ty n)
 | _=>none
theorem RelV.abs {x:V} {u:Value} (r:RelV x u):absV u=some x:=by
 cases x with
 | non=>cases r;rfl
 | bl _=>cases r;rfl
 | int _=>obtain⟨t,rfl⟩:=r;rfl
 | str _=>obtain⟨t,rfl⟩:=r;rfl
 | byt _=>obtain⟨t,rfl⟩:=r;rfl
 | flt _=>obtain⟨t,rfl⟩:=r;rfl
 | ref _=>cases r;rfl
 | ty _=>cases r;rfl
theorem RelV.inj {x y:V} {u:Value} (r:RelV x u) (q:RelV y u):x=y:=Option.some.inj (r.abs.symm.trans q.abs)
theorem Vals.inj:∀{xs ys:List V} {us:List Value},Vals xs us->Vals ys us->xs=ys
 | _,_,_,.nil,.nil=>rfl
 | _,_,_,.cons r t,.cons r' t'=>by rw[r.inj r',Vals.inj t t']
section
variable {X:Cx} {pins:List (Addr × Obj)} {σ:St} {H:Hp} {s:Shared} {a:Addr} {xs ys:List V}
theorem SqL.of {K:PySem.W.Frag} (h:H a=some (.lst xs)):SqL K H a xs:=.inl (.inl h)
theorem SqT.of {K:PySem.W.Frag} (h:H a=some (.tup xs)):SqT K H a xs:=.inl (.inl h)
theorem Inv.list (I:Inv X pins σ H s) (h:SqL X.K H a xs):∃its:List Value,Vals xs its/\PlainL s.heap a its.toArray/\xs.length<=sizeLine:=by
 rcases h with h | ⟨o,its,n,hk,hc,hd,hs,hz,r⟩
 ·obtain⟨z,its,n,r,e⟩:=h.ok I.hok;exact⟨its,r,⟨_,n,e,rfl,rfl,rfl⟩,z⟩
 ·refine⟨its.toList,r,⟨o,n,I.kIn a o hk,hc,hd,by simpa using hs⟩,?_⟩;have e:=r.length;simp only[Array.length_toList] at e;omega
theorem Inv.tuple (I:Inv X pins σ H s) (h:SqT X.K H a xs):∃its:List Value,Vals xs its/\IsTup s.heap a its.toArray/\xs.length<=sizeLine:=by
 rcases h with h | ⟨o,its,n,hk,hc,hs,hz,r⟩
 ·obtain⟨z,its,r,p⟩:=h.ok I.hok;exact⟨its,r,p,z⟩
 ·refine⟨its.toList,r,⟨o,I.kIn a o hk,hc,n,by simpa using hs⟩,?_⟩;have e:=r.length;simp only[Array.length_toList] at e;omega
theorem Inv.list_inj (I:Inv X pins σ H s) (h:SqL X.K H a xs) (h':SqL X.K H a ys):xs=ys:=by
 obtain⟨its,r,⟨o,n,e,_,_,d⟩,_⟩:=I.list h;obtain⟨its',r',⟨o',n',e',_,_,d'⟩,_⟩:=I.list h';rw[e] at e';cases e';rw[d] at d';injection d' with d1 _
 have:its=its':=by simpa using congrArg Array.toList d1
 subst this;exact r.inj r'
theorem Inv.tuple_inj (I:Inv X pins σ H s) (h:SqT X.K H a xs) (h':SqT X.K H a ys):xs=ys:=by
 obtain⟨its,r,⟨o,e,_,n,d⟩,_⟩:=I.tuple h;obtain⟨its',r',⟨o',e',_,n',d'⟩,_⟩:=I.tuple h';rw[e] at e';cases e';rw[d] at d';injection d' with d1 _
 have:its=its':=by simpa using congrArg Array.toList d1
 subst this;exact r.inj r'
end
abbrev Cx.wish (X:Cx) (E:Value->Shared->Prop):Cx:={ X with xe:=E }
abbrev Cx.nox (X:Cx):Cx:=X.wish fun _ _=>False
theorem Cx.Ok.wish {X:Cx} (ok:X.Ok) (E:Value->Shared->Prop):(X.wish E).Ok :=
 ⟨ok.mod,ok.kind,ok.glob,ok.blt,ok.above,ok.inj,ok.has,ok.cab,ok.hd,ok.frames,ok.stk,ok.exf,ok.bs,ok.bsz,ok.noex,ok.exfs,ok.funs,ok.frf⟩
theorem Cx.Ok.unwish {X:Cx} {E:Value->Shared->Prop} (ok:(X.wish E).Ok):X.Ok :=
 ⟨ok.mod,ok.kind,ok.glob,ok.blt,ok.above,ok.inj,ok.has,ok.cab,ok.hd,ok.frames,ok.stk,ok.exf,ok.bs,ok.bsz,ok.noex,ok.exfs,ok.funs,ok.frf⟩
section
variable {X:Cx} {pins:List (Addr × Obj)} {σ:St} {H:Hp} {s:Shared} {E:Value->Shared->Prop}
theorem Inv.wish (I:Inv X pins σ H s) (E:Value->Shared->Prop):Inv (X.wish E) pins σ H s:=⟨I.ok.wish E,I.os,I.bare,I.base,I.loc,I.cell,I.free,I.freeC,I.pin,I.hok,I.len⟩
theorem Inv.unwish (I:Inv (X.wish E) pins σ H s):Inv X pins σ H s:=⟨I.ok.unwish,I.os,I.bare,I.base,I.loc,I.cell,I.free,I.freeC,I.pin,I.hok,I.len⟩
theorem SP.unwish {D:Ends} {f:Flow} {s':Shared} (h:SP (X.wish E) pins D f s'):SP X pins D f s':=by
 cases f with
 | next=>obtain⟨σ',H',I,q⟩:=h;exact⟨σ',H',I.unwish,q⟩
 | brk=>obtain⟨σ',H',I,q⟩:=h;exact⟨σ',H',I.unwish,q⟩
 | cont=>obtain⟨σ',H',I,q⟩:=h;exact⟨σ',H',I.unwish,q⟩
 | ret u=>obtain⟨v,σ',H',I,r,q⟩:=h;exact⟨v,σ',H',I.unwish,r,q⟩
theorem PE.nox {e:Expr} {t:TE} (h:PE X.nox e t):PE X e t:=fun pins s σ H Q I hw =>
 wpAny_mono (h pins s σ H Q (I.wish _) hw) (fun _ _ ⟨v,H',I',r,q⟩=>⟨v,H',I'.unwish,r,q⟩) fun _ _ z=>False.elim z
theorem PT.nox {e:Expr} {t:TT} (h:PT X.nox e t):PT X e t:=fun pins s σ H Q I hw =>
 wpAny_mono (h pins s σ H Q (I.wish _) hw) (fun _ _ ⟨H',I',q⟩=>⟨H',I'.unwish,q⟩) fun _ _ z=>False.elim z
theorem PSs.nox {st:List Stmt} {t:TS} (h:PSs X.nox st t):PSs X st t:=fun pins s σ H D I hw =>
 wpAny_mono (h pins s σ H D (I.wish _) hw) (fun _ _ q=>q.unwish) fun _ _ z=>False.elim z
end
section
variable {X:Cx} {st:Stmt} {jbP:List Stmt} {t u:TS} {e:Expr} {te:TE} {pos:Pos}
def jiF:TS:=fun D σ H=>D.nx σ H
def joq (t u:TS):TS:=fun D σ H=>t { D with nx:=u D } σ H
theorem jaA:PSs X [] jiF:=fun _ _ σ H _ I h=>wpAny_execs_nil ⟨σ,H,I,h⟩
theorem jae (h1:PS X st t) (h2:PSs X jbP u):PSs X (st::jbP) (joq t u):=by
  intro pins s σ H D I h;refine wpAny_execs_cons (thn (h1 pins s σ H { D with nx:=u D } I h) fun f s1 q=>?_);cases f with
  | next =>
    obtain⟨σ',H',I',q⟩:=q;exact h2 pins s1 σ' H' D I' q
  | ret v=>exact q
  | brk=>exact q
  | cont=>exact q
theorem jai (h1:PS X st t):PSs X [st] t:=by
 intro pins s σ H D I h;refine wpAny_execs_cons (thn (h1 pins s σ H D I h) fun f s1 q=>?_);cases f with
 | next=>exact wpAny_execs_nil q
 | ret v=>exact q
 | brk=>exact q
 | cont=>exact q
def jg1:TS:=fun D σ H=>D.bk σ H
def jkL:TS:=fun D σ H=>D.ct σ H
theorem Inv.quiet {pins:List (Addr × Obj)} {σ:St} {H:Hp} {s:Shared} (I:Inv X pins σ H s):interactive X.env=false:=by simp [interactive,I.ok.kind]
def jiG (te:TE):TS:=fun D σ H=>te σ H fun _ H1=>D.nx σ H1
theorem jb7 (he:PE X e te) (hs:swapsWith e none pos.line X.env=pure false:=by rfl):PS X (.Expr e pos) (jiG te):=by
 intro pins s σ H D I h;exact wpAny_Expr_any (thn (he pins s σ H _ I h) fun v s1 ⟨x,H1,I1,r1,q1⟩=>⟨σ,H1,I1,q1⟩) I.quiet hs
def joG (te:TE):TS:=fun D σ H=>te σ H D.rt
theorem jap (he:PE X e te):PS X (.Return (some e) pos) (joG te):=by
 intro pins s σ H D I h;exact wpAny_Return_some (thn (he pins s σ H _ I h) fun v s1 ⟨x,H1,I1,r1,q1⟩=>⟨x,σ,H1,I1,r1,q1⟩)
def jkM:TS:=fun D _ H=>D.rt .non H
def joH (c:TT) (t u:TS):TS:=fun D σ H=>c σ H fun b H1=>if b=true then t D σ H1 else u D σ H1
theorem jaO {c:Expr} {a b:List Stmt} {tc:TT} (hc:PT X c tc) (ha:PSs X a t) (hb:PSs X b u):PS X (.If c a b pos) (joH tc t u):=by
 intro pins s σ H D I h;refine wpAny_If (thn (hc pins s σ H _ I h) fun d s1 ⟨H1,I1,q1⟩=>?_);cases d with
 | true=>exact ha pins s1 σ H1 D I1 q1
 | false=>exact hb pins s1 σ H1 D I1 q1
def joI:TS:=fun _ _ _=>False
theorem jbQ {sts:List Stmt}:PSs X sts joI:=fun _ _ _ _ _ _ h=>h.elim
end
abbrev TG:=V->St->Hp->(St->Hp->Prop)->Prop
abbrev TGs:=List V->St->Hp->(St->Hp->Prop)->Prop
def PG (X:Cx) (target:Expr) (t:TG):Prop :=
  ∀ (pins : List (Addr × Obj)) (s : Shared) (σ : St) (H : Hp) (v : V) (u : Value) (Q : St -> Hp -> Prop), Inv X pins σ H s -> RelV v u -> t v σ H Q ->
    wpAny (model X.prog X.w) X.A (assign target X.env u) (fun _ s'=>∃σ' H',Inv X pins σ' H' s'/\Q σ' H') X.xe s
def PGs (X:Cx) (ts:List Expr) (t:TGs):Prop :=
  ∀ (pins : List (Addr × Obj)) (s : Shared) (σ : St) (H : Hp) (vs : List V) (us : List Value) (Q : St -> Hp -> Prop), Inv X pins σ H s -> Vals vs us -> t vs σ H Q ->
    wpAny (model X.prog X.w) X.A (assignInOrder ((assignEach ts X.env).map (·.2)) us) (fun _ s'=>∃σ' H',Inv X pins σ' H' s'/\Q σ' H') X.xe s
abbrev TSet:=V->V->V->Hp->(Hp->Prop)->Prop
def PSet (X:Cx) (t:TSet):Prop :=
  ∀ (pins : List (Addr × Obj)) (s : Shared) (σ : St) (H : Hp) (o i v : V) (ov iv u : Value) (Q : Hp -> Prop), Inv X pins σ H s -> RelV o ov -> RelV i iv -> RelV v u -> t o i v H Q ->
    wpAny (model X.prog X.w) X.A (setItem ov iv u) (fun _ s'=>∃H',Inv X pins σ H' s'/\Q H') X.xe s
section
variable {X:Cx} {pos:Pos}
def jbA (i:Nat):TG:=fun v σ H Q=>Q (σ.set i (some v)) H
theorem jan {i:Nat} {x:Str} (hN:X.N.Nodup) (hi:X.N[i]?=some x) (hx:Loc X.env.scope x) (hf:X.fn x=true\/X.env.scope.names.lookup x=some .local:=by first | exact .inl rfl | exact .inr rfl | assumption):PG X (.Name x pos) (jbA i):=by
 intro pins s σ H v u Q I r h;exact wpAny_assign_Name (jed I hN hi hx r (fun s' I'=>⟨_,H,I',h⟩) hf)
def jkN:TGs:=fun vs σ H Q=>vs=[]/\Q σ H
def jdJ (t:TG) (u:TGs):TGs:=fun vs σ H Q=>∃v r,vs=v::r/\t v σ H fun σ' H'=>u r σ' H' Q
theorem jbb:PGs X [] jkN:=by
 intro pins s σ H vs us Q I r h;obtain⟨e,h⟩:=h;subst e;cases r;exact assignInOrder_nil ⟨σ,H,I,h⟩
theorem jay {e:Expr} {es:List Expr} {t:TG} {u:TGs} (h1:PG X e t) (h2:PGs X es u)
    (hs:(assignEach (e::es) X.env).map (·.2)=assign e X.env::(assignEach es X.env).map (·.2):=by rfl):PGs X (e::es) (jdJ t u):=by
  intro pins s σ H vs us Q I r h;obtain⟨v,vr,e1,h⟩:=h;subst e1;cases r with
  | cons r rr =>
    rw[hs];refine assignInOrder_cons (thn (h1 pins s σ H _ _ _ I r h) fun _ s1 ⟨σ1,H1,I1,q1⟩=>?_);exact h2 pins s1 σ1 H1 _ _ Q I1 rr q1
def jkI (K:PySem.W.Frag) (n:Nat) (t:TGs):TG:=fun v σ H Q=>∃a xs,v=.ref a/\SqT K H a xs/\xs.length=n/\t xs σ H Q
theorem jdt {es:List Expr} {k:Nat} {t:TGs} {n:Nat} (hc:X.calm=true) (h:PGs X es t)
  (hn:(assignEach es X.env).length=n:=by rfl) (hst:(assignEach es X.env).findIdx? (·.1)=none:=by rfl):PG X (.Tuple es k pos) (jkI X.K n t):=by
 intro pins s σ H v u Q I r hw;obtain⟨a,xs,e1,hq,hl,hw⟩:=hw;subst e1;cases r;obtain⟨its,rv,ht,hz⟩:=I.tuple hq;refine assign_Tuple_tuple (I.ok.hd hc) ht (by simp [hn,<- hl,rv.length]) hst fun h' hx=>?_;have I1:Inv X pins σ H { s with heap:=h' }:=I.kept (t':=s.toks) fun b o e=>hx b o (xan (Heap.lt_size e)) e;exact h pins _ σ H xs _ Q I1 (by simpa using rv) hw
def gSub (to ti:TE) (t:TSet):TG:=fun v σ H Q=>to σ H fun o H1=>ti σ H1 fun i H2=>t o i v H2 fun H3=>Q σ H3
theorem jfY {o i:Expr} {to ti:TE} {t:TSet} (ho:PE X o to) (hi:PE X i ti) (hs:PSet X t)
  (ha:∀v,assign (.Subscript o i pos) X.env v=(do
   let ov <- holding [v] (eval o X.env)
   let iv <- holding [v,ov] (eval i X.env)
   standAt pos
   holding [v,ov,iv] (setItem ov iv v)
   release [v,ov,iv] []):=by intro _;rfl):PG X (.Subscript o i pos) (gSub to ti t):=by
 intro pins s σ H v u Q I r h;rw[ha];refine wpAny_bind (wpAny_holding (thn (ho pins s σ H _ I h) fun ov s1 ⟨x,H1,I1,r1,q1⟩=>?_));refine wpAny_bind (wpAny_holding (thn (hi pins s1 σ H1 _ I1 q1) fun iv s2 ⟨y,H2,I2,r2,q2⟩=>?_));refine wpAny_bind (wpAny_standAt (wpAny_bind (wpAny_holding (thn (hs pins s2 σ H2 x y v ov iv u _ I2 r1 r2 r q2) fun _ s3 ⟨H3,I3,q3⟩=>?_))));exact wpAny_release ⟨σ,H3,I3,q3⟩
def jkO (te:TE) (g:TG):TS:=fun D σ H=>te σ H fun x H1=>g x σ H1 D.nx
theorem jcC {tg e:Expr} {te:TE} {g:TG} (he:PE X e te) (hg:PG X tg g) (hs:swapsWithSole [tg] e pos.line X.env=pure false:=by rfl) (hw:swappedStores [tg] e X.env=pure none:=by rfl)
  (h1:(assignEach [tg] X.env).map (·.2)=[assign tg X.env]:=by rfl):PS X (.Assign [tg] e pos) (jkO te g):=by
 intro pins s σ H D I h;refine wpAny_Assign_stores (thn (he pins s σ H _ I h) fun v s1 ⟨x,H1,I1,r1,q1⟩=>?_) hs hw;rw[h1];exact thn (hg pins s1 σ H1 x v _ I1 r1 q1) fun _ s2 q=>q
theorem jas {i:Nat} {x:Str} {e:Expr} {te:TE} {pos':Pos} (hN:X.N.Nodup) (hi:X.N[i]?=some x) (hx:Loc X.env.scope x) (he:PE X e te) (hs:swapsWith e (some (.Name x pos')) pos.line X.env=pure false:=by rfl) (hf:X.fn x=true\/X.env.scope.names.lookup x=some .local:=by first | exact .inl rfl | exact .inr rfl | assumption) :
  PS X (.Assign [.Name x pos'] e pos) (jkO te (jbA i)):=by
 intro pins s σ H D I h;refine wpAny_Assign_Name (thn (he pins s σ H _ I h) fun v s1 ⟨y,H1,I1,r1,q1⟩=>?_) hs;exact jed I1 hN hi hx r1 (fun s2 I2=>⟨_,H1,I2,q1⟩) hf
def joJ (i j:Nat) (ta:TA):TS:=fun D σ H=>ta σ H fun vs H1=>∃v w,vs=[v,w]/\D.nx ((σ.set i (some v)).set j (some w)) H1
theorem joK {i j:Nat} {x y:Str} {a b:Expr} {ta:TA} {px py pt:Pos} {kt k2 pt2} (hc:X.calm=true) (hN:X.N.Nodup) (hi:X.N[i]?=some x) (hj:X.N[j]?=some y) (hij:i≠j)
    (hx:X.env.scope.names.lookup x=some .local) (hy:X.env.scope.names.lookup y=some .local) (ha:PA X [a,b] ta)
    (hw:swappedStores [.Tuple [.Name x px,.Name y py] kt pt] (.Tuple [a,b] k2 pt2) X.env=pure (some [x,y]))
    (hs:swapsWithSole [.Tuple [.Name x px,.Name y py] kt pt] (.Tuple [a,b] k2 pt2) pos.line X.env=pure false:=by rfl) :
    PS X (.Assign [.Tuple [.Name x px,.Name y py] kt pt] (.Tuple [a,b] k2 pt2) pos) (joJ i j ta):=by
  intro pins s σ H D I h;rw[exec_Assign_arm];refine wpAny_bind (wpAny_standAt ?_);rw[hs];refine wpAny_bind (wpAny_pure ?_);rw[if_neg (by decide)];refine wpAny_bind (Tuple_ (thn (ha _ pins s σ H _ I h) fun us s1 ⟨vs,H1,I1,r1,q1⟩=>?_));obtain⟨v,w,e1,q1⟩:=q1;subst e1;obtain⟨u1,u2,rfl,rv,rw'⟩:∃u1 u2,us=[u1,u2]/\RelV v u1/\RelV w u2:=by
    cases r1 with
    | cons p q =>
      cases q with
      | cons p' q' =>
        cases q';exact⟨_,_,rfl,p,p'⟩
  refine wpAny_newObj_type ?_ (by show 2<=sizeLine;decide);have I2:Inv X pins σ H1 { s1 with heap:=s1.heap.push { cls:=.type "tuple",data:=.seq [u1,u2].toArray } }:=I1.kept (t':=s1.toks) fun b o e=>Heap.get?_push_of_some _ e;rw[hw];refine wpAny_bind (wpAny_pure ?_);show wpAny (model X.prog X.w) X.A (do rule "assign.swapped-stores";let items <- unpackItems (.ref s1.heap.objs.size) 2 none;assignInOrder [fun v=>bindName X.env y v,fun v=>bindName X.env x v] items.reverse;pure Flow.next) _ _ _;refine wpAny_bind (wpAny_rule (wpAny_bind (unpackItems_tuple (items:=#[u1,u2]) (I.ok.hd hc) (IsTup.new s1.heap _) fun h' hx'=>?_)));have I3:=I2.kept (h':=h') (t':=s1.toks) fun b o e=>hx' b o (xan (Heap.lt_size e)) e;show wpAny _ _ (assignInOrder [fun v=>bindName X.env y v,fun v=>bindName X.env x v] [u2,u1] >>= fun _=>pure Flow.next) _ _ _;refine wpAny_bind (assignInOrder_cons (wpAny_bindName (jed I3 hN hj (.inl hy) rw' (fun s2 I4=>?_) (.inr hy))));refine assignInOrder_cons (wpAny_bindName (jed I4 hN hi (.inl hx) rv (fun s3 I5=>assignInOrder_nil (wpAny_pure ?_)) (.inr hx)));rw[List.set_comm _ _ (Ne.symm hij)] at I5;exact⟨_,H1,I5,q1⟩
def joL (c:TT) (tb:TS):TS:=fun D σ H=>∃W:Nat->St->Hp->Prop,(∃m,W m σ H)/\∀m σ H,W m σ H ->
 c σ H fun b H1=>if b=true then ∃N:St->Hp->Prop,(∀σ' H',N σ' H'->∃m',m'<m/\W m' σ' H')/\tb { D with nx:=N,ct:=N,bk:=D.nx } σ H1 else D.nx σ H1
theorem jdu {c:Expr} {body:List Stmt} {tc:TT} {tb:TS} (hp:PassesOwn (model X.prog X.w) X.A X.env X.xe) (hc:PT X c tc) (hb:PSs X body tb):PS X (.While c body [] pos) (joL tc tb):=by
  intro pins s σ H D I h;obtain⟨W,⟨m0,w0⟩,turn⟩:=h;refine wpAny_While (codeAny_whileLoop (fun n s'=>∃σ' H',Inv X pins σ' H' s'/\W n σ' H') ?_ m0 ⟨σ,H,I,w0⟩);rintro n s1 ⟨σ1,H1,I1,w1⟩;refine wpAny_passesOwn hp (thn (hc pins s1 σ1 H1 _ I1 (turn n σ1 H1 w1)) fun b s2 ⟨H2,I2,q2⟩=>?_);cases b with
  | true =>
    obtain⟨N,hN,q2⟩:=q2;rw[if_pos rfl];refine wpAny_passesOwn hp (thn (hb pins s2 σ1 H2 _ I2 q2) fun f s3 q3=>?_);cases f with
    | next =>
      obtain⟨σ3,H3,I3,n3⟩:=q3;obtain⟨m',hm,w3⟩:=hN σ3 H3 n3;exact⟨m',hm,σ3,H3,I3,w3⟩
    | cont =>
      obtain⟨σ3,H3,I3,n3⟩:=q3;obtain⟨m',hm,w3⟩:=hN σ3 H3 n3;exact⟨m',hm,σ3,H3,I3,w3⟩
    | brk=>exact q3
    | ret v=>exact q3
  | false =>
    rw[if_neg xar];exact wpAny_execs_nil ⟨σ1,H2,I2,q2⟩
end
structure It where
 go:Nat->Hp->Prop
 yld:Nat->Hp->V->Hp->Prop
 stop:Nat->Hp->Prop
def jeW (X:Cx) (pins:List (Addr × Obj)) (H:Hp) (b:Addr):Prop :=
 H b=none/\b≠X.env.locals/\b∉X.fs/\(b∈X.ex\/X.s₀.heap.objs.size<=b)/\(∀x c,X.env.cells.lookup x=some c->c≠b)/\∀p∈X.pn++pins,p.1≠b
theorem Inv.fpOk {X:Cx} {pins:List (Addr × Obj)} {σ:St} {H H':Hp} {s:Shared} {b:Addr} (I:Inv X pins σ H s) (hb:s.heap.objs.size<=b) (hn:H' b=none):jeW X pins H' b:=by
 refine⟨hn,xcd (xao I.lt hb),I.nofs hb,.inr (xaE I.sz hb),fun x c e z=>?_,fun p hp z=>?_⟩
 ·obtain⟨v,q⟩:=I.cell x c e;exact absurd (xao q.lt (by rw[z];exact hb)) (xbh _)
 ·exact absurd (xao (Heap.lt_size (I.pin p hp).1) (by rw[z];exact hb)) (xbh _)
structure Turn (P:Program) (w:World) (K:PySem.W.Frag) (tg:Expr) (J:It) (fp:List Addr) (it:Addr) (tn:Nat->Heap->Prop):Prop where
 mem:it∈fp
 obj:∀i h,tn i h->∀b∈fp,∃o,h.get? b=some o/\∀v,o.data≠.cell v
 keep:∀i h h',tn i h->(∀b∈fp,∀o,h.get? b=some o->h'.get? b=some o)->tn i h'
 item:∀(X:Cx),X.prog=P->X.w=w->X.K=K->X.calm=true->∀(i:Nat) (pins:List (Addr × Obj)) (s:Shared) (σ:St) (H:Hp) (E:Value->Shared->Prop),Inv X pins σ H s->(∀b∈fp,jeW X pins H b)->tn i s.heap->J.go i H ->
  wpAny (model P w) X.A (pyNext (.ref it)) (fun r s1=>∃u,r=some u /\
   wpAny (model P w) X.A (letOwnedTupleGo tg (.ref it) u) (fun _ s2=>∃x H',Inv X pins σ H' s2/\RelV x u/\J.yld i H x H'/\tn (i+1) s2.heap/\∀b∈fp,H' b=none) E s1) E s
 done:∀(X:Cx),X.prog=P->X.w=w->X.K=K->X.calm=true->∀(i:Nat) (pins:List (Addr × Obj)) (s:Shared) (σ:St) (H:Hp) (E:Value->Shared->Prop),Inv X pins σ H s->(∀b∈fp,jeW X pins H b)->tn i s.heap->J.stop i H ->
  wpAny (model P w) X.A (pyNext (.ref it)) (fun r s1=>r=none/\Inv X pins σ H s1) E s
 self:∀(A:Around) (i:Nat) (s:Shared) (Q:Value->Shared->Prop) (E:Value->Shared->Prop),tn i s.heap->Q (.ref it) s->wpAny (model P w) A (pyIter (.ref it)) Q E s
abbrev TI:=St->Hp->(It->Hp->Prop)->Prop
def PIE (X:Cx) (pins:List (Addr × Obj)) (σ:St) (tg:Expr) (R:It->Hp->Prop) (itv:Value) (s2:Shared):Prop :=
 ∃(it:Addr) (fp:List Addr) (tn:Nat->Heap->Prop) (J:It) (H':Hp),itv=.ref it/\Inv X pins σ H' s2/\Turn X.prog X.w X.K tg J fp it tn/\tn 0 s2.heap/\(∀b∈fp,jeW X pins H' b)/\R J H'
def PI (X:Cx) (tg iter:Expr) (wi:TI):Prop :=
  ∀ (pins : List (Addr × Obj)) (s : Shared) (σ : St) (H : Hp) (R : It -> Hp -> Prop), Inv X pins σ H s -> wi σ H R ->
    wpAny (model X.prog X.w) X.A (eval iter X.env) (fun v s1=>wpAny (model X.prog X.w) X.A (pyIter v) (PIE X pins σ tg R) X.xe s1) X.xe s
theorem jmX {M:Model} {A:Around} {E:Value->Shared->Prop} {s:Shared} {tg:Expr} {it:Addr} {u:Value} {o:Obj} {n:String} {vs:Array Value} {Q:Unit->Shared->Prop} (ho:s.heap.get? it=some o) (hc:o.cls=.type n) (hd:o.data=.fields vs)
    (hn:["enumerate","zip","dict_itemiterator","dict_reverseitemiterator","odict_iterator","itertools.zip_longest","itertools.pairwise"].contains n=false) (hQ:Q () s):wpAny M A (letOwnedTupleGo tg (.ref it) u) Q E s:=by
  unfold letOwnedTupleGo;cases tg<;>first
    | exact wpAny_pure hQ
    | (cases u<;>first
        | exact wpAny_pure hQ
        | (refine wpAny_bind (wpAny_load ho ?_)
           rw[hc,hd];show wpAny M A (if (["enumerate","zip","dict_itemiterator","dict_reverseitemiterator","odict_iterator","itertools.zip_longest","itertools.pairwise"].contains n&&vs[0]?==some (rawInt _))=true then _ else _) Q E s;rw[if_neg (by intro h;rw[hn,Bool.false_and] at h;cases h)];exact wpAny_pure hQ))
def Itl (K:PySem.W.Frag) (a:Addr):It :=
 ⟨fun i H=>∃xs x,SqL K H a xs/\xs[i]?=some x,fun i H x H'=>H'=H/\∀xs,SqL K H a xs->xs[i]?=some x,fun i H=>∃xs,SqL K H a xs/\xs.length<=i⟩
def Itt (K:PySem.W.Frag) (a:Addr):It :=
 ⟨fun i H=>∃xs x,SqT K H a xs/\xs[i]?=some x,fun i H x H'=>H'=H/\∀xs,SqT K H a xs->xs[i]?=some x,fun i H=>∃xs,SqT K H a xs/\xs.length<=i⟩
def Itr (lo:Int) (n:Nat):It:=⟨fun i _=>i<n,fun i H x H'=>H'=H/\x=.int (lo+i),fun i _=>n<=i⟩
theorem jiH {P:Program} {w:World} {K:PySem.W.Frag} {tg:Expr} (a it:Addr):Turn P w K tg (Itl K a) [it] it (fun i h=>h.IsListIter it a i) where
 mem:=by simp
 obj:=fun i h st b hb=>by
  have e:b=it:=by simpa using hb
  subst e;obtain⟨o,e,c,d⟩:=st;exact⟨o,e,fun v z=>by rw[d] at z;cases z⟩
 keep:=fun i h h' st k=>st.at fun o e=>k it (by simp) o e
 item:=by
  intro X hP hw hK hc i pins s σ H E I hf st hg;subst hP hw hK;obtain⟨xs,x,hq,hx⟩:=hg;obtain⟨its,rv,p,hz⟩:=I.list hq;obtain⟨u,hu,ru⟩:=rv.get hx;obtain⟨f0,f1,f2,f3,f4,f5⟩:=hf it (by simp);refine wpAny_pyNext_list_item st p.isList (x:=u) (by simpa using hu) fun h' st' sb=>?_;have I1:Inv X pins σ H { s with heap:=h' }:=I.turned (t':=s.toks) (fun b o hb e=>(sb.2 b hb).trans e) f0 f1 f3 f4 f5;obtain⟨o,e,c,d⟩:=id st';exact⟨u,rfl,jmX (s:={ s with heap:=h' }) e c d (by decide) ⟨x,H,I1,ru,⟨rfl,fun ys hy=>by rw[I.list_inj hy hq];exact hx⟩,st',fun b hb=>(hf b hb).1⟩⟩
 done:=by
  intro X hP hw hK hc i pins s σ H E I hf st hg;subst hP hw hK;obtain⟨xs,hq,hx⟩:=hg;obtain⟨its,rv,p,hz⟩:=I.list hq;obtain⟨f0,f1,f2,f3,f4,f5⟩:=hf it (by simp);have hl:=rv.length;exact wpAny_pyNext_list_end (I.ok.hd hc) st p.isList (by simp;omega) fun h' eb=>⟨rfl,I.turned (t':=s.toks) (fun b o hb e=>eb b o hb e) f0 f1 f3 f4 f5⟩
 self:=fun _ _ _ _ _ st h=>wpAny_pyIter_listiter st h
theorem jh1 {P:Program} {w:World} {K:PySem.W.Frag} {tg:Expr} (a it:Addr):Turn P w K tg (Itt K a) [it] it (fun i h=>h.IsTupleIter it a i) where
 mem:=by simp
 obj:=fun i h st b hb=>by
  have e:b=it:=by simpa using hb
  subst e;obtain⟨o,e,c,d⟩:=st;exact⟨o,e,fun v z=>by rw[d] at z;cases z⟩
 keep:=fun i h h' st k=>st.at fun o e=>k it (by simp) o e
 item:=by
  intro X hP hw hK hc i pins s σ H E I hf st hg;subst hP hw hK;obtain⟨xs,x,hq,hx⟩:=hg;obtain⟨its,rv,p,hz⟩:=I.tuple hq;obtain⟨u,hu,ru⟩:=rv.get hx;obtain⟨f0,f1,f2,f3,f4,f5⟩:=hf it (by simp);refine wpAny_pyNext_tuple_item st (show s.heap.IsTuple a its.toArray from p) (x:=u) (by simpa using hu) fun h' st' sb=>?_;have I1:Inv X pins σ H { s with heap:=h' }:=I.turned (t':=s.toks) (fun b o hb e=>(sb.2 b hb).trans e) f0 f1 f3 f4 f5;obtain⟨o,e,c,d⟩:=id st';exact⟨u,rfl,jmX (s:={ s with heap:=h' }) e c d (by decide) ⟨x,H,I1,ru,⟨rfl,fun ys hy=>by rw[I.tuple_inj hy hq];exact hx⟩,st',fun b hb=>(hf b hb).1⟩⟩
 done:=by
  intro X hP hw hK hc i pins s σ H E I hf st hg;subst hP hw hK;obtain⟨xs,hq,hx⟩:=hg;obtain⟨its,rv,p,hz⟩:=I.tuple hq;obtain⟨f0,f1,f2,f3,f4,f5⟩:=hf it (by simp);have hl:=rv.length;exact wpAny_pyNext_tuple_end (I.ok.hd hc) st (show s.heap.IsTuple a its.toArray from p) (by simp;omega) fun h' eb=>⟨rfl,I.turned (t':=s.toks) (fun b o hb e=>eb b o hb e) f0 f1 f3 f4 f5⟩
 self:=fun _ _ _ _ _ st h=>wpAny_pyIter_tupleiter st h
theorem jh2 {P:Program} {w:World} {K:PySem.W.Frag} {tg:Expr} (it:Addr) (lo:Int) (n:Nat):Turn P w K tg (Itr lo n) [it] it (fun i h=>IsRangeIter h it (lo+(i:Nat)*1) ((n:Int)-(i:Nat)) 1) where
 mem:=by simp
 obj:=fun i h st b hb=>by
  have e:b=it:=by simpa using hb
  subst e;exact⟨_,st,fun v z=>by
   have z':Data.fields _=Data.cell v:=z;cases z'⟩
 keep:=fun i h h' st k=>k it (by simp) _ st
 item:=by
  intro X hP hw hK hc i pins s σ H E I hf st hg;subst hP hw hK;obtain⟨f0,f1,f2,f3,f4,f5⟩:=hf it (by simp);have W:=Walks.range (prog:=X.prog) (w:=X.w) (I.ok.hd hc) it lo 1 n;refine W.item i s _ _ hg st fun v h' tk hv st' kk=>?_;obtain⟨t,rfl⟩:=hv;have I1:Inv X pins σ H { s with heap:=h',toks:=tk }:=I.turned (fun b o hb e=>kk b o (by simpa using hb) e) f0 f1 f3 f4 f5;refine⟨_,rfl,jmX (s:={ s with heap:=h',toks:=tk }) (n:="range_iterator") st' rfl rfl (by decide) ⟨.int (lo+i),H,I1,⟨t,?_⟩,⟨rfl,rfl⟩,st',fun b hb=>(hf b hb).1⟩⟩;rw[xbO]
 done:=by
  intro X hP hw hK hc i pins s σ H E I hf st hg;subst hP hw hK;obtain⟨f0,f1,f2,f3,f4,f5⟩:=hf it (by simp);exact wpAny_pyNext_range_end (I.ok.hd hc) st (by have:n<=i:=hg;omega) fun h' eb=>⟨rfl,I.turned (t':=s.toks) (fun b o hb e=>eb b o hb e) f0 f1 f3 f4 f5⟩
 self:=fun _ _ _ _ _ st h=>wpAny_pyIter_rangeiter st h
section
variable {X:Cx} {tg:Expr}
def jkP (K:PySem.W.Frag) (tl:TE):TI:=fun σ H R=>tl σ H fun x H1=>∃a,x=.ref a/\(∃xs,SqL K H1 a xs)/\R (Itl K a) H1
def iTup (K:PySem.W.Frag) (tl:TE):TI:=fun σ H R=>tl σ H fun x H1=>∃a,x=.ref a/\(∃xs,SqT K H1 a xs)/\R (Itt K a) H1
theorem jbo {l:Expr} {tl:TE} (hl:PE X l tl):PI X tg l (jkP X.K tl):=by
 intro pins s σ H R I h;refine thn (hl pins s σ H _ I h) fun v s1 ⟨x,H1,I1,r1,q1⟩=>?_;obtain⟨a,e,⟨xs,hq⟩,q⟩:=q1;subst e;cases r1;obtain⟨its,rv,p,hz⟩:=I1.list hq;refine wpAny_pyIter_list p.isList ?_;refine⟨s1.heap.objs.size,[s1.heap.objs.size],_,_,H1,rfl,I1.kept (t':=s1.toks) fun b o e=>Heap.get?_push_of_some _ e,jiH a _,⟨_,Heap.get?_push_size _ rfl,rfl,rfl⟩,fun b hb=>?_,q⟩;have e:b=s1.heap.objs.size:=by simpa using hb
 subst e;exact I1.fpOk (xae _) (I1.hok.fresh (xae _))
theorem jcu {l:Expr} {tl:TE} (hl:PE X l tl):PI X tg l (iTup X.K tl):=by
 intro pins s σ H R I h;refine thn (hl pins s σ H _ I h) fun v s1 ⟨x,H1,I1,r1,q1⟩=>?_;obtain⟨a,e,⟨xs,hq⟩,q⟩:=q1;subst e;cases r1;obtain⟨its,rv,p,hz⟩:=I1.tuple hq;refine wpAny_pyIter_tuple (show s1.heap.IsTuple a its.toArray from p) ?_;refine⟨s1.heap.objs.size,[s1.heap.objs.size],_,_,H1,rfl,I1.kept (t':=s1.toks) fun b o e=>Heap.get?_push_of_some _ e,jh1 a _,⟨_,Heap.get?_push_size _ rfl,rfl,rfl⟩,fun b hb=>?_,q⟩;have e:b=s1.heap.objs.size:=by simpa using hb
 subst e;exact I1.fpOk (xae _) (I1.hok.fresh (xae _))
theorem jg2 {pins:List (Addr × Obj)} {σ:St} {H:Hp} {s:Shared} {R:It->Hp->Prop} {E:Value->Shared->Prop} {lo hi:Int} {t u v:Tok} {tk:Nat} (I:Inv X pins σ H s) (h1:-(2^62)<=lo) (h2:lo<2^62) (h3:-(2^62)<=hi) (h4:hi<2^62)
  (q:R (Itr lo (hi-lo).toNat) H):wpAny (model X.prog X.w) X.A (pyIter (.ref s.heap.objs.size)) (PIE X pins σ tg R) E { s with heap:=s.heap.push { cls:=.type "range",data:=.fields #[.int lo t,.int hi u,.int 1 v] },toks:=tk }:=by
 refine wpAny_pyIter_range (IsRange.new ..) (small_one h1 h2 h3 h4) ?_;have I1:Inv X pins σ H { s with heap:=s.heap.push { cls:=.type "range",data:=.fields #[.int lo t,.int hi u,.int 1 v] },toks:=tk }:=I.kept fun b o e=>Heap.get?_push_of_some _ e;refine⟨(s.heap.push { cls:=.type "range",data:=.fields #[.int lo t,.int hi u,.int 1 v] }).objs.size,[(s.heap.push { cls:=.type "range",data:=.fields #[.int lo t,.int hi u,.int 1 v] }).objs.size],_,_,H,rfl,
  I1.kept (t':=tk) fun b o e=>Heap.get?_push_of_some _ e,jh2 _ lo (hi-lo).toNat,?_,fun b hb=>?_,q⟩
 ·have e1:lo+((0:Nat):Int)*1=lo:=by simp
  have e2:(((hi-lo).toNat:Nat):Int)-((0:Nat):Int)=Builtin.Range.rangeSize lo hi 1:=by rw[rangeSize_one];split<;>omega
  show IsRangeIter _ _ (lo+((0:Nat):Int)*1) ((((hi-lo).toNat:Nat):Int)-((0:Nat):Int)) 1;rw[e1,e2];exact Heap.get?_push_size _ rfl
 ·have e:b=(s.heap.push { cls:=.type "range",data:=.fields #[.int lo t,.int hi u,.int 1 v] }).objs.size:=by simpa using hb
  subst e;exact I1.fpOk (xae _) (I1.hok.fresh (xae _))
def jmY (ta:TA):TI:=fun σ H R=>ta σ H fun vs H1=>∃j:Int,vs=[.int j]/\-(2^62)<=j/\j<2^62/\R (Itr 0 j.toNat) H1
def jmZ (ta:TA):TI:=fun σ H R=>ta σ H fun vs H1=>∃i j:Int,vs=[.int i,.int j]/\(-(2^62)<=i/\i<2^62/\-(2^62)<=j/\j<2^62)/\R (Itr i (j-i).toNat) H1
theorem jaU {a:Expr} {ta:TA} {p pos:Pos} (hg:Gl X "range") (hm:X.mg "range"=none) (ha:PA X [a] ta) (hs:starEach [a] X.env=[(false,eval a X.env)]:=by rfl):PI X tg (.Call (.Name "range" p) [a] [] pos) (jmY ta):=by
  intro pins s σ H R I h;refine Call_ (jej I hg hm boot_range (PyProof.Rows.callWith_type1 (thn (ha pos pins s σ H _ I h) fun us s1 ⟨vs,H1,I1,r1,q1⟩=>?_) hs rfl));obtain⟨j,e,q1,q2,q⟩:=q1;subst e;cases r1 with
  | cons r rr =>
    cases rr;obtain⟨t,rfl⟩:=r;exact call_range_1 (jg2 I1 (by omega) (by omega) q1 q2 (by simpa using q))
theorem jel {a b:Expr} {ta:TA} {p pos:Pos} (hg:Gl X "range") (hm:X.mg "range"=none) (ha:PA X [a,b] ta) (hs:starEach [a,b] X.env=[(false,eval a X.env),(false,eval b X.env)]:=by rfl) (hs2:starEach [b] X.env=[(false,eval b X.env)]:=by rfl) :
    PI X tg (.Call (.Name "range" p) [a,b] [] pos) (jmZ ta):=by
  intro pins s σ H R I h;refine Call_ (jej I hg hm boot_range (PyProof.Rows.callWith_type1 (thn (ha pos pins s σ H _ I h) fun us s1 ⟨vs,H1,I1,r1,q1⟩=>?_) (by rw[hs,hs2]) (by rw[hs2];rfl)));obtain⟨i,j,e,⟨q1,q2,q3,q4⟩,q⟩:=q1;subst e;cases r1 with
  | cons r rr =>
    cases rr with
    | cons r' rr =>
      cases rr;obtain⟨t,rfl⟩:=r;obtain⟨t',rfl⟩:=r';exact call_range_2 (jg2 I1 q1 q2 q3 q4 q)
def jm0 (wi:TI) (g:TG) (tb:TS):TS:=fun D σ H=>wi σ H fun J H1=>∃W:Nat->Nat->St->Hp->Prop,(∃m,W 0 m σ H1)/\∀i m σ H,W i m σ H ->
 (J.stop i H/\D.nx σ H)\/(J.go i H/\∃N:St->Hp->Prop,(∀σ' H',N σ' H'->∃m',m'<m/\W (i+1) m' σ' H')/\∀x H',J.yld i H x H'->g x σ H' fun σ2 H2=>tb { D with nx:=N,ct:=N,bk:=D.nx } σ2 H2)
def jeX (fp:List Addr) (h:Heap):List (Addr × Obj):=fp.filterMap fun b=>(h.get? b).map fun o=>(b,o)
theorem jbO {fp:List Addr} {h:Heap} {b:Addr} {o:Obj} (hb:b∈fp) (e:h.get? b=some o):(b,o)∈jeX fp h:=List.mem_filterMap.mpr ⟨b,hb,by rw[e];rfl⟩
theorem jiI {fp:List Addr} {h:Heap} {p:Addr × Obj} (hp:p∈jeX fp h):p.1∈fp/\h.get? p.1=some p.2:=by
  obtain⟨b,hb,e⟩:=List.mem_filterMap.mp hp;cases q:h.get? b with
  | none=>rw[q] at e;cases e
  | some o =>
    rw[q] at e;have e':(b,o)=p:=Option.some.inj e;subst e';exact⟨hb,q⟩
theorem Inv.pinned {pins:List (Addr × Obj)} {σ:St} {H:Hp} {s:Shared} {fp:List Addr} (I:Inv X pins σ H s) (hf:∀b∈fp,jeW X pins H b) (ho:∀b∈fp,∃o,s.heap.get? b=some o/\∀v,o.data≠.cell v):Inv X (pins++jeX fp s.heap) σ H s :=
 I.pins_of fun p hp=>(xaz.mp hp).elim (fun z=>I.pin p (xak _ z)) fun z=>by
  obtain⟨hb,e⟩:=jiI z;obtain⟨f0,f1,f2,_⟩:=hf p.1 hb;obtain⟨o,e',d⟩:=ho p.1 hb;rw[e] at e';cases e';exact⟨e,f0,f1,f2,d⟩
theorem Inv.unpinned {pins pl:List (Addr × Obj)} {σ:St} {H:Hp} {s:Shared} (I:Inv X (pins++pl) σ H s):Inv X pins σ H s:=I.pins_of fun p hp=>I.pin p (xak _ (xaK _ hp))
theorem jbE {iter:Expr} {body:List Stmt} {wi:TI} {g:TG} {tb:TS} {pos:Pos} (hp:PassesOwn (model X.prog X.w) X.A X.env X.xe) (hc:X.calm=true) (hi:PI X tg iter wi) (hg:PG X tg g) (hb:PSs X body tb)
  (hs:∀x,foldedSetIterable iter X.env x=pure x:=by intro _;rfl):PS X (.For tg iter body [] pos) (jm0 wi g tb):=by
 intro pins s σ H D I h;refine wpAny_For (thn (hi pins s σ H _ I h) fun v s1 h1=>thn h1 fun itv s2 h2=>?_) hs;obtain⟨it,fp,tn,J,H2,e,I2,T,st2,f2,W,⟨m0,w0⟩,turn⟩:=h2;subst e;have stat:∀{H':Hp},(∀b∈fp,H' b=none)->∀b∈fp,jeW X pins H' b:=fun hn b hb=>⟨hn b hb,(f2 b hb).2⟩;refine codeAny_forLoop_any (fun n s'=>∃i σ' H',Inv X pins σ' H' s'/\tn i s'.heap/\(∀b∈fp,H' b=none)/\W i n σ' H') ?_ m0 ⟨0,σ,H2,I2,st2,fun b hb=>(f2 b hb).1,w0⟩;rintro n s3 ⟨i,σ3,H3,I3,st3,fr3,w3⟩;rcases turn i n σ3 H3 w3 with ⟨stop,qn⟩ | ⟨go,N,hN,step⟩
 ·refine wpAny_passesOwn hp (thn (T.done X rfl rfl rfl hc i pins s3 σ3 H3 X.xe I3 (stat fr3) st3 stop) fun r s4 ⟨hr,I4⟩=>?_);subst hr;exact wpAny_execs_nil ⟨σ3,H3,I4,qn⟩
 ·refine wpAny_passesOwn hp (thn (T.item X rfl rfl rfl hc i pins s3 σ3 H3 X.xe I3 (stat fr3) st3 go) fun r s4 ⟨u,hr,h4⟩=>?_);subst hr;refine wpAny_passesOwn hp (thn h4 fun _ s5 ⟨x,H5,I5,r5,y5,st5,fr5⟩=>?_);have I5':=I5.pinned (stat fr5) (T.obj _ _ st5);refine wpAny_passesOwn hp (thn (hg _ s5 σ3 H5 x u _ I5' r5 (step x H5 y5)) fun _ s6 ⟨σ6,H6,I6,q6⟩=>?_);refine wpAny_passesOwn hp (thn (hb _ s6 σ6 H6 _ I6 q6) fun f s7 q7=>?_);have again:∀{σ7:St} {H7:Hp},Inv X (pins++jeX fp s5.heap) σ7 H7 s7->N σ7 H7->∃m,m<n/\∃i σ' H',Inv X pins σ' H' s7/\tn i s7.heap/\(∀b∈fp,H' b=none)/\W i m σ' H':=fun {σ7 H7} I7 n7=>by
   obtain⟨m',hm,w7⟩:=hN σ7 H7 n7;refine⟨m',hm,i+1,σ7,H7,I7.unpinned,T.keep _ _ _ st5 fun b hb o e=>(I7.pin (b,o) (xak _ (xak _ (jbO hb e)))).1,fun b hb=>?_,w7⟩;obtain⟨o,e,d⟩:=T.obj _ _ st5 b hb;exact (I7.pin (b,o) (xak _ (xak _ (jbO hb e)))).2.1
  cases f with
  | next=>obtain⟨σ7,H7,I7,n7⟩:=q7;exact again I7 n7
  | cont=>obtain⟨σ7,H7,I7,n7⟩:=q7;exact again I7 n7
  | brk=>obtain⟨σ7,H7,I7,q7⟩:=q7;exact⟨σ7,H7,I7.unpinned,q7⟩
  | ret v=>obtain⟨x7,σ7,H7,I7,r7,q7⟩:=q7;exact⟨x7,σ7,H7,I7.unpinned,r7,q7⟩
end
theorem jbL {K:PySem.W.Frag} {a:Addr} {xs:List V} {g:TG} {tb:TS} {D:Ends} {σ:St} {H:Hp} (Pv:Nat->St->Hp->Prop) (h0:Pv 0 σ H) (hl:∀i σ H,i<=xs.length->Pv i σ H->SqL K H a xs)
    (hs:∀i x σ H,xs[i]?=some x->Pv i σ H->g x σ H fun σ2 H2=>tb { D with nx:=Pv (i+1),ct:=Pv (i+1),bk:=D.nx } σ2 H2) (hd:∀σ H,Pv xs.length σ H->D.nx σ H) :
    ∃ W : Nat -> Nat -> St -> Hp -> Prop, (∃ m, W 0 m σ H) /\ ∀ i m σ H, W i m σ H ->
      ((Itl K a).stop i H/\D.nx σ H)\/((Itl K a).go i H/\∃N:St->Hp->Prop,(∀σ' H',N σ' H'->∃m',m'<m/\W (i+1) m' σ' H')/\∀x H',(Itl K a).yld i H x H'->g x σ H' fun σ2 H2=>tb { D with nx:=N,ct:=N,bk:=D.nx } σ2 H2):=by
  refine⟨fun i m σ H=>m=xs.length-i/\i<=xs.length/\Pv i σ H,⟨xs.length,by simp,xaG _,h0⟩,?_⟩;rintro i m σ H ⟨rfl,hi,p⟩;have q:=hl i σ H hi p;by_cases hlt:i<xs.length
  . refine .inr ⟨⟨xs,xs[i],q,by simp [hlt]⟩,Pv (i+1),fun σ' H' p'=>⟨xs.length-(i+1),by omega,rfl,hlt,p'⟩,fun x H' y=>?_⟩
    obtain⟨e,y⟩:=y;subst e;exact hs i x σ _ (y xs q) p
  . have e:i=xs.length:=by omega
    subst e;exact .inl ⟨⟨xs,q,xae _⟩,hd σ H p⟩
theorem jiJ {K:PySem.W.Frag} {a:Addr} {xs:List V} {g:TG} {tb:TS} {D:Ends} {σ:St} {H:Hp} (Pv:Nat->St->Hp->Prop) (h0:Pv 0 σ H) (hl:∀i σ H,i<=xs.length->Pv i σ H->SqT K H a xs)
    (hs:∀i x σ H,xs[i]?=some x->Pv i σ H->g x σ H fun σ2 H2=>tb { D with nx:=Pv (i+1),ct:=Pv (i+1),bk:=D.nx } σ2 H2) (hd:∀σ H,Pv xs.length σ H->D.nx σ H) :
    ∃ W : Nat -> Nat -> St -> Hp -> Prop, (∃ m, W 0 m σ H) /\ ∀ i m σ H, W i m σ H ->
      ((Itt K a).stop i H/\D.nx σ H)\/((Itt K a).go i H/\∃N:St->Hp->Prop,(∀σ' H',N σ' H'->∃m',m'<m/\W (i+1) m' σ' H')/\∀x H',(Itt K a).yld i H x H'->g x σ H' fun σ2 H2=>tb { D with nx:=N,ct:=N,bk:=D.nx } σ2 H2):=by
  refine⟨fun i m σ H=>m=xs.length-i/\i<=xs.length/\Pv i σ H,⟨xs.length,by simp,xaG _,h0⟩,?_⟩;rintro i m σ H ⟨rfl,hi,p⟩;have q:=hl i σ H hi p;by_cases hlt:i<xs.length
  . refine .inr ⟨⟨xs,xs[i],q,by simp [hlt]⟩,Pv (i+1),fun σ' H' p'=>⟨xs.length-(i+1),by omega,rfl,hlt,p'⟩,fun x H' y=>?_⟩
    obtain⟨e,y⟩:=y;subst e;exact hs i x σ _ (y xs q) p
  . have e:i=xs.length:=by omega
    subst e;exact .inl ⟨⟨xs,q,xae _⟩,hd σ H p⟩
theorem jbR {lo:Int} {n:Nat} {g:TG} {tb:TS} {D:Ends} {σ:St} {H:Hp} (Pv:Nat->St->Hp->Prop) (h0:Pv 0 σ H)
    (hs:∀i σ H,i<n->Pv i σ H->g (.int (lo+i)) σ H fun σ2 H2=>tb { D with nx:=Pv (i+1),ct:=Pv (i+1),bk:=D.nx } σ2 H2) (hd:∀σ H,Pv n σ H->D.nx σ H) :
    ∃ W : Nat -> Nat -> St -> Hp -> Prop, (∃ m, W 0 m σ H) /\ ∀ i m σ H, W i m σ H ->
      ((Itr lo n).stop i H/\D.nx σ H)\/((Itr lo n).go i H/\∃N:St->Hp->Prop,(∀σ' H',N σ' H'->∃m',m'<m/\W (i+1) m' σ' H')/\∀x H',(Itr lo n).yld i H x H'->g x σ H' fun σ2 H2=>tb { D with nx:=N,ct:=N,bk:=D.nx } σ2 H2):=by
  refine⟨fun i m σ H=>m=n-i/\i<=n/\Pv i σ H,⟨n,by simp,xaG _,h0⟩,?_⟩;rintro i m σ H ⟨rfl,hi,p⟩;by_cases hlt:i<n
  . refine .inr ⟨hlt,Pv (i+1),fun σ' H' p'=>⟨n-(i+1),by omega,rfl,hlt,p'⟩,fun x H' y=>?_⟩
    obtain⟨e,y⟩:=y;subst e y;exact hs i σ _ hlt p
  . have e:i=n:=by omega
    subst e;exact .inl ⟨xae _,hd σ H p⟩
abbrev R2:=V->V->Hp->VK->Prop
def OpR (X:Cx) (f:Value->Value->Sem Value) (r:R2):Prop :=
  ∀ (pins : List (Addr × Obj)) (s : Shared) (σ : St) (H : Hp) (x y : V) (v u : Value) (Q : VK), Inv X pins σ H s -> RelV x v -> RelV y u -> r x y H Q ->
    wpAny (model X.prog X.w) X.A (f v u) (EP X pins σ Q) X.xe s
def UnR (X:Cx) (f:Value->Sem Value) (r:V->Hp->VK->Prop):Prop :=
  ∀ (pins : List (Addr × Obj)) (s : Shared) (σ : St) (H : Hp) (x : V) (v : Value) (Q : VK), Inv X pins σ H s -> RelV x v -> r x H Q ->
    wpAny (model X.prog X.w) X.A (f v) (EP X pins σ Q) X.xe s
def CallR (X:Cx) (f:Value) (r:List V->Hp->VK->Prop):Prop :=
  ∀ (pins : List (Addr × Obj)) (s : Shared) (σ : St) (H : Hp) (xs : List V) (us : List Value) (Q : VK), Inv X pins σ H s -> Vals xs us -> r xs H Q ->
    wpAny (model X.prog X.w) X.A (call f us) (EP X pins σ Q) X.xe s
def tOp (r:R2) (ta tb:TE):TE:=fun σ H Q=>ta σ H fun x H1=>tb σ H1 fun y H2=>r x y H2 Q
def tUn (r:V->Hp->VK->Prop) (ta:TE):TE:=fun σ H Q=>ta σ H fun x H1=>r x H1 Q
def rI (C:Int->Int->Prop) (g:Int->Int->V):R2:=fun x y H Q=>∃i j,x=.int i/\y=.int j/\C i j/\Q (g i j) H
def rI0 (g:Int->Int->V):R2:=fun x y H Q=>∃i j,x=.int i/\y=.int j/\Q (g i j) H
def rU (g:Int->V):V->Hp->VK->Prop:=fun x H Q=>∃i,x=.int i/\Q (g i) H
section
variable {X:Cx} {a b c:Expr} {ta tb tc:TE} {pos:Pos}
theorem binT (ha:PE X a ta) (hb:PE X b tb) {pins:List (Addr × Obj)} {s:Shared} {σ:St} {H:Hp} {R:V->V->Hp->Prop} (I:Inv X pins σ H s)
  (h:ta σ H fun x H1=>tb σ H1 fun y H2=>R x y H2) {Q:Value->Shared->Prop} {f:Value->Value->Sem Value}
  (hf:∀v u s2 x y H2,Inv X pins σ H2 s2->RelV x v->RelV y u->R x y H2->wpAny (model X.prog X.w) X.A (f v u) Q X.xe s2) :
  wpAny (model X.prog X.w) X.A (eval a X.env) (fun v s₁=>wpAny (model X.prog X.w) X.A (eval b X.env) (fun u s₂=>wpAny (model X.prog X.w) X.A (f v u) Q X.xe s₂) X.xe s₁) X.xe s:=by
 refine thn (ha pins s σ H _ I h) fun v s1 ⟨x,H1,I1,r1,q1⟩=>?_;refine thn (hb pins s1 σ H1 _ I1 q1) fun u s2 ⟨y,H2,I2,r2,q2⟩=>?_;exact hf v u s2 x y H2 I2 r1 r2 q2
theorem jaq {op:Operator} {r:R2} (ho:OpR X (binaryOp op) r) (ha:PE X a ta) (hb:PE X b tb):PE X (.BinOp a op b pos) (tOp r ta tb):=by
 intro pins s σ H Q I h;exact wpAny_BinOp (binT ha hb I h fun v u s2 x y H2 I2 rx ry q=>ho pins s2 σ H2 x y v u Q I2 rx ry q)
theorem jd9 {op:UnaryOp} {r:V->Hp->VK->Prop} (ho:UnR X (unaryOp op) r) (ha:PE X a ta):PE X (.UnaryOp op a pos) (tUn r ta):=by
 intro pins s σ H Q I h;exact UnaryOp_ (thn (ha pins s σ H _ I h) fun v s1 ⟨x,H1,I1,r1,q1⟩=>ho pins s1 σ H1 x v Q I1 r1 q1)
theorem opI {f:Value->Value->Sem Value} {C:Int->Int->Prop} {g:Int->Int->Int}
  (rule:∀(i j:Int) (t u:Tok) (s:Shared) (Q:Value->Shared->Prop) (E:Value->Shared->Prop),C i j->Q (.int (g i j) s.toks) { s with toks:=s.toks+1 }->wpAny (model X.prog X.w) X.A (f (.int i t) (.int j u)) Q E s) :
  OpR X f (rI C fun i j=>.int (g i j)):=by
 intro pins s σ H x y v u Q I rx ry h;obtain⟨i,j,rfl,rfl,hc,q⟩:=h;obtain⟨t,rfl⟩:=rx;obtain⟨t',rfl⟩:=ry;exact rule i j t t' s _ _ hc ⟨.int (g i j),H,I.tok _,⟨_,rfl⟩,q⟩
theorem opI0 {f:Value->Value->Sem Value} {g:Int->Int->Int}
  (rule:∀(i j:Int) (t u:Tok) (s:Shared) (Q:Value->Shared->Prop) (E:Value->Shared->Prop),Q (.int (g i j) s.toks) { s with toks:=s.toks+1 }->wpAny (model X.prog X.w) X.A (f (.int i t) (.int j u)) Q E s) :
  OpR X f (rI0 fun i j=>.int (g i j)):=by
 intro pins s σ H x y v u Q I rx ry h;obtain⟨i,j,rfl,rfl,q⟩:=h;obtain⟨t,rfl⟩:=rx;obtain⟨t',rfl⟩:=ry;exact rule i j t t' s _ _ ⟨.int (g i j),H,I.tok _,⟨_,rfl⟩,q⟩
theorem opB0 {f:Value->Value->Sem Value} {g:Int->Int->Bool}
  (rule:∀(i j:Int) (t u:Tok) (s:Shared) (Q:Value->Shared->Prop) (E:Value->Shared->Prop),Q (.bool (g i j)) s->wpAny (model X.prog X.w) X.A (f (.int i t) (.int j u)) Q E s) :
  OpR X f (rI0 fun i j=>.bl (g i j)):=by
 intro pins s σ H x y v u Q I rx ry h;obtain⟨i,j,rfl,rfl,q⟩:=h;obtain⟨t,rfl⟩:=rx;obtain⟨t',rfl⟩:=ry;exact rule i j t t' s _ _ ⟨.bl (g i j),H,I,rfl,q⟩
def CPow (i j:Int):Prop:=0<=j/\j<=1000000/\i.natAbs<2^64
theorem jbq:OpR X (binaryOp .Add) (rI0 fun i j=>.int (i+j)):=opI0 fun _ _ _ _ _ _ _ q=>add_int q
theorem ja5:OpR X (binaryOp .Sub) (rI0 fun i j=>.int (i-j)):=opI0 fun _ _ _ _ _ _ _ q=>sub_int q
theorem jb1:OpR X (binaryOp .Mod) (rI (fun _ j=>0<j) fun i j=>.int (i % j)):=opI fun i j _ _ _ _ _ hc q=>by
 have h1:(0:Int)<j:=hc;exact mod_int' (by omega) (by rw[Int.fmod_eq_emod_of_nonneg i (by omega)];exact q)
theorem jg3:OpR X (binaryOp .Pow) (rI CPow fun i j=>.int (i^j.toNat)):=opI fun _ _ _ _ _ _ _ hc q=>pow_int_small hc.1 hc.2.1 hc.2.2 q
theorem unI {f:Value->Sem Value} {g:Int->Int}
  (rule:∀(i:Int) (t:Tok) (s:Shared) (Q:Value->Shared->Prop) (E:Value->Shared->Prop),Q (.int (g i) s.toks) { s with toks:=s.toks+1 }->wpAny (model X.prog X.w) X.A (f (.int i t)) Q E s) :
  UnR X f (rU fun i=>.int (g i)):=by
 intro pins s σ H x v Q I rx h;obtain⟨i,rfl,q⟩:=h;obtain⟨t,rfl⟩:=rx;exact rule i t s _ _ ⟨.int (g i),H,I.tok _,⟨_,rfl⟩,q⟩
theorem jcv:UnR X (unaryOp .USub) (rU fun i=>.int (-i)):=unI fun _ _ _ _ _ q=>neg_int q
end
def jor:V->V->Bool
 | .non,.non=>true | .non,.int _=>true | .int _,.non=>true | .non,.bl _=>true | .bl _,.non=>true | .non,.str _=>true | .str _,.non=>true
 | .int _,.int _=>true | .bl _,.bl _=>true | .str _,.str _=>true | .byt _,.byt _=>true
 | .int _,.str _=>true | .str _,.int _=>true | .bl _,.str _=>true | .str _,.bl _=>true
 | _,_=>false
def rEq:R2:=fun x y H Q=>jor x y=true/\Q (.bl (decide (x=y))) H
def rNe:R2:=fun x y H Q=>jor x y=true/\Q (.bl (!decide (x=y))) H
theorem jiK {i j:Int}:decide (V.int i=V.int j)=(i==j):=by
 rw[xb2];simp
theorem jl1 {i j:Bool}:decide (V.bl i=V.bl j)=(i==j):=by
 rw[xb2];simp
theorem jiL {i j:Str}:decide (V.str i=V.str j)=(i==j):=by
 rw[xb2];simp
theorem jiM {i j:Array UInt8}:decide (V.byt i=V.byt j)=(i.toList==j.toList):=by
 rw[xb2];cases i;cases j;simp
section
variable {X:Cx} {a b c:Expr} {ta tb tc:TE} {pos:Pos}
theorem jaP {pins:List (Addr × Obj)} {σ:St} {H:Hp} {s:Shared} {Q:VK} {k k':Bool} (I:Inv X pins σ H s) (q:Q (.bl k) H) (e:k=k'):EP X pins σ Q (.bool k') s:=by
 subst e;exact⟨.bl k,H,I,rfl,q⟩
theorem jea:OpR X (compareOp .Eq) rEq:=by
  intro pins s σ H x y v u Q I rx ry h;obtain⟨hs,q⟩:=h;cases x with
  | non =>
    cases rx;cases y with
    | non=>cases ry;exact PySem.EqNone.eq_none_none (jaP I q (by simp))
    | bl j=>cases ry;exact PySem.EqNone.eq_none_bool (jaP I q (by simp))
    | int j=>obtain⟨t',rfl⟩:=ry;exact PySem.EqNone.eq_none_int (jaP I q (by simp))
    | str j=>obtain⟨t',rfl⟩:=ry;exact PySem.EqNone.eq_none_str (jaP I q (by simp))
    | _=>exact absurd (show false=true from hs) xar
  | bl i =>
    cases rx;cases y with
    | non=>cases ry;exact PySem.EqNone.eq_bool_none (jaP I q (by simp))
    | bl j=>cases ry;exact eq_bool (jaP I q jl1)
    | str j=>obtain⟨t',rfl⟩:=ry;exact PySem.EqMixed.eq_bool_str (jaP I q (by simp))
    | _=>exact absurd (show false=true from hs) xar
  | int i =>
    obtain⟨t,rfl⟩:=rx;cases y with
    | non=>cases ry;exact PySem.EqNone.eq_int_none (jaP I q (by simp))
    | int j=>obtain⟨t',rfl⟩:=ry;exact eq_int (jaP I q jiK)
    | str j=>obtain⟨t',rfl⟩:=ry;exact PySem.EqMixed.eq_int_str (jaP I q (by simp))
    | _=>exact absurd (show false=true from hs) xar
  | str i =>
    obtain⟨t,rfl⟩:=rx;cases y with
    | non=>cases ry;exact PySem.EqNone.eq_str_none (jaP I q (by simp))
    | bl j=>cases ry;exact PySem.EqMixed.eq_str_bool (jaP I q (by simp))
    | int j=>obtain⟨t',rfl⟩:=ry;exact PySem.EqMixed.eq_str_int (jaP I q (by simp))
    | str j=>obtain⟨t',rfl⟩:=ry;exact eq_str (jaP I q jiL)
    | _=>exact absurd (show false=true from hs) xar
  | byt i =>
    obtain⟨t,rfl⟩:=rx;cases y with
    | byt j=>obtain⟨t',rfl⟩:=ry;exact PySem.W.eq_bytes (jaP I q jiM)
    | _=>exact absurd (show false=true from hs) xar
  | _=>cases y<;>exact absurd (show false=true from hs) xar
theorem jem:OpR X (compareOp .NotEq) rNe:=by
  intro pins s σ H x y v u Q I rx ry h;obtain⟨hs,q⟩:=h;cases x with
  | non =>
    cases rx;cases y with
    | non=>cases ry;exact PySem.EqNone.ne_none_none (jaP I q (by simp))
    | bl j=>cases ry;exact PySem.EqNone.ne_none_bool (jaP I q (by simp))
    | int j=>obtain⟨t',rfl⟩:=ry;exact PySem.EqNone.ne_none_int (jaP I q (by simp))
    | str j=>obtain⟨t',rfl⟩:=ry;exact PySem.EqNone.ne_none_str (jaP I q (by simp))
    | _=>exact absurd (show false=true from hs) xar
  | bl i =>
    cases rx;cases y with
    | non=>cases ry;exact PySem.EqNone.ne_bool_none (jaP I q (by simp))
    | bl j=>cases ry;exact ne_bool (jaP I q (congrArg not jl1))
    | str j=>obtain⟨t',rfl⟩:=ry;exact PySem.EqMixed.ne_bool_str (jaP I q (by simp))
    | _=>exact absurd (show false=true from hs) xar
  | int i =>
    obtain⟨t,rfl⟩:=rx;cases y with
    | non=>cases ry;exact PySem.EqNone.ne_int_none (jaP I q (by simp))
    | int j=>obtain⟨t',rfl⟩:=ry;exact ne_int (jaP I q (congrArg not jiK))
    | str j=>obtain⟨t',rfl⟩:=ry;exact PySem.EqMixed.ne_int_str (jaP I q (by simp))
    | _=>exact absurd (show false=true from hs) xar
  | str i =>
    obtain⟨t,rfl⟩:=rx;cases y with
    | non=>cases ry;exact PySem.EqNone.ne_str_none (jaP I q (by simp))
    | bl j=>cases ry;exact PySem.EqMixed.ne_str_bool (jaP I q (by simp))
    | int j=>obtain⟨t',rfl⟩:=ry;exact PySem.EqMixed.ne_str_int (jaP I q (by simp))
    | str j=>obtain⟨t',rfl⟩:=ry;exact ne_str (jaP I q (congrArg not jiL))
    | _=>exact absurd (show false=true from hs) xar
  | byt i =>
    obtain⟨t,rfl⟩:=rx;cases y with
    | byt j=>obtain⟨t',rfl⟩:=ry;exact PySem.W.ne_bytes (jaP I q (congrArg not jiM))
    | _=>exact absurd (show false=true from hs) xar
  | _=>cases y<;>exact absurd (show false=true from hs) xar
theorem jfZ:OpR X (compareOp .Lt) (rI0 fun i j=>.bl (decide (i<j))):=opB0 fun _ _ _ _ _ _ _ q=>lt_int q
theorem joM:OpR X (compareOp .LtE) (rI0 fun i j=>.bl (decide (i<=j))):=opB0 fun _ _ _ _ _ _ _ q=>le_int q
theorem jgF:OpR X (compareOp .Gt) (rI0 fun i j=>.bl (decide (j<i))):=opB0 fun _ _ _ _ _ _ _ q=>gt_int q
theorem jm1:OpR X (compareOp .GtE) (rI0 fun i j=>.bl (decide (j<=i))):=opB0 fun _ _ _ _ _ _ _ q=>ge_int q
theorem jdY:OpR X (compareOp .Is) (fun x y H Q=>y=.non/\Q (.bl (decide (x=.non))) H):=by
 intro pins s σ H x y v u Q I rx ry h;obtain⟨rfl,q⟩:=h;cases ry;refine is_none_gen (jaP I q ?_);cases x<;>first
  | (cases rx;rfl)
  | (obtain⟨t,rfl⟩:=rx;rfl)
theorem OpR.or {f:Value->Value->Sem Value} {r r':R2} (h:OpR X f r) (h':OpR X f r'):OpR X f (fun x y H Q=>r x y H Q\/r' x y H Q):=by
 intro pins s σ H x y v u Q I rx ry q;rcases q with q | q
 ·exact h pins s σ H x y v u Q I rx ry q
 ·exact h' pins s σ H x y v u Q I rx ry q
theorem jaz (b:Expr) {op:CmpOp} (h:op≠.In:=by decide) (h2:op≠.NotIn:=by decide):behindInMarks op b=false:=by
 have e1:(op==CmpOp.In)=false:=by cases op<;>first | rfl | exact absurd rfl h
 have e2:(op==CmpOp.NotIn)=false:=by cases op<;>first | rfl | exact absurd rfl h2
 cases b<;>simp [behindInMarks,e1,e2]
theorem jdh {op:CmpOp} {r:R2} (ho:OpR X (compareOp op) r) (ha:PE X a ta) (hb:PE X b tb) (hm:behindInMarks op b=false):PE X (.Compare a [op] [b] pos) (tOp r ta tb):=by
 intro pins s σ H Q I h;exact wpAny_Compare1 (binT ha hb I h fun v u s2 x y H2 I2 rx ry q=>ho pins s2 σ H2 x y v u Q I2 rx ry q) hm
def jiN (t:TE):TT:=fun σ H Q=>t σ H fun x H'=>∃k,x=.bl k/\Q k H'
theorem jar {op:CmpOp} {r:R2} (ho:OpR X (compareOp op) r) (ha:PE X a ta) (hb:PE X b tb) (hm:behindInMarks op b=false):PT X (.Compare a [op] [b] pos) (jiN (tOp r ta tb)):=by
 intro pins s σ H Q I h;refine wpAny_isTrue_Compare1 (thn (ha pins s σ H _ I h) fun v s1 ⟨x,H1,I1,r1,q1⟩=>thn (hb pins s1 σ H1 _ I1 q1) fun u s2 ⟨y,H2,I2,r2,q2⟩ =>
  thn (ho pins s2 σ H2 x y v u _ I2 r1 r2 q2) fun c s3 ⟨z,H3,I3,r3,k,e,q3⟩=>?_) hm
 subst e;cases r3;exact wpAny_truthy_bool ⟨H3,I3,q3⟩
def jl2 (r r':R2) (ta tb tc:TE):TE:=fun σ H Q=>ta σ H fun x H1=>tb σ H1 fun y H2=>r x y H2 fun z H3=>∃k,z=.bl k /\
 (if k=true then tc σ H3 fun w' H4=>r' y w' H4 Q else Q (.bl false) H3)
theorem jg4:(sizeLine:Nat)<2^63:=by rw[sizeLine_eq];decide
theorem jdK {x:V} {us:List Value} (r:Vals [x] us):∃u,us=[u]/\RelV x u:=by
 cases r with
 | cons r1 r2=>cases r2;exact⟨_,rfl,r1⟩
theorem jm2 {x y:V} {us:List Value} (r:Vals [x,y] us):∃u w',us=[u,w']/\RelV x u/\RelV y w':=by
  cases r with
  | cons r1 r2 =>
    cases r2 with
    | cons r3 r4=>cases r4;exact⟨_,_,rfl,r1,r3⟩
theorem jc0:CallR X (.builtin "abs") (fun xs H Q=>∃i,xs=[.int i]/\Q (.int (if i<0 then -i else i)) H):=by
 intro pins s σ H xs us Q I r h;obtain⟨i,rfl,q⟩:=h;obtain⟨u,rfl,t,rfl⟩:=jdK r;exact call_abs_int fun u tk=>⟨.int (if i<0 then -i else i),H,I.tok _,⟨_,rfl⟩,q⟩
theorem jiO (hc:X.calm=true):CallR X (.builtin "max") (fun xs H Q=>∃i j,xs=[.int i,.int j]/\Q (.int (if j>i then j else i)) H):=by
 intro pins s σ H xs us Q I r h;obtain⟨i,j,rfl,q⟩:=h;obtain⟨u,w',rfl,⟨t,rfl⟩,⟨t',rfl⟩⟩:=jm2 r;refine max_two_ints (I.ok.hd hc) fun h' tk k=>⟨_,H,I.kept k,?_,q⟩;by_cases hj:j>i
 ·rw[if_pos hj,if_pos hj];exact⟨_,rfl⟩
 ·rw[if_neg hj,if_neg hj];exact⟨_,rfl⟩
theorem jiP (hc:X.calm=true):CallR X (.builtin "min") (fun xs H Q=>∃i j,xs=[.int i,.int j]/\Q (.int (if j<i then j else i)) H):=by
 intro pins s σ H xs us Q I r h;obtain⟨i,j,rfl,q⟩:=h;obtain⟨u,w',rfl,⟨t,rfl⟩,⟨t',rfl⟩⟩:=jm2 r;refine min_two_ints (I.ok.hd hc) fun h' tk k=>⟨_,H,I.kept k,?_,q⟩;by_cases hj:j<i
 ·rw[if_pos hj,if_pos hj];exact⟨_,rfl⟩
 ·rw[if_neg hj,if_neg hj];exact⟨_,rfl⟩
end
structure ObjM (h:Heap) (x dx C:Addr) (mA:Str->Option Value):Prop where
 obj:h.get? x=some (PySem.W.instObj C dx)
 ns:h.Ns1 dx mA
 ne:dx≠x
theorem jiQ {h:Heap} {dx:Addr} {mA:Str->Option Value} (n:h.Ns1 dx mA):∃od,h.get? dx=some od/\∀name,PySem.W.lookIn name od=some (mA name):=by
 obtain⟨o,es,ep,ho,hd,hk,_,hm⟩:=n;refine⟨o,ho,fun name=>?_⟩;have e:=hm name;unfold nsFind findBy at e;rw[<- Array.find?_toList] at e;unfold PySem.W.lookIn;rw[hd];dsimp only;split
 ·rename_i y q
  rw[q] at e;exact congrArg some e
 ·rename_i q
  rw[q] at e;have a:es.toList.any (·.refKey)=false:=by
   rw[List.any_eq_false];intro y hy;obtain⟨z,t,hkey⟩:=hk y (Array.mem_toList_iff.mp hy);simp [DictEntry.refKey,hkey]
  have a':¬es.toList.any (·.refKey)=true:=by rw[a];exact xar
  rw[if_neg a'];exact congrArg some e
theorem ObjM.look {h:Heap} {x dx C:Addr} {mA:Str->Option Value} (I:ObjM h x dx C mA):∃od,PySem.W.InstAt h x (PySem.W.instObj C dx) C (some od)/\∀name,PySem.W.lookIn name od=some (mA name) :=
 let ⟨od,ho,hl⟩:=jiQ I.ns
 ⟨od,⟨I.obj,rfl,rfl,ho⟩,hl⟩
theorem RelO.some_of {v:V} {o:Option Value} (r:RelO (some v) o):∃u,o=some u/\RelV v u:=by
 cases o with
 | none=>exact (show False from r).elim
 | some u=>exact⟨u,rfl,r⟩
section
variable {P:Program} {w:World} {H H':Hp} {h h':Heap} {a C dx:Addr} {fs fs':List (Str × V)}
theorem jm3 (hok:HOk P w H h) (e:H a=some (.ins C dx fs)):∃mA,ObjM h a dx C mA/\(∀f,RelO (fs.lookup f) (mA f))/\PySem.Within mA (fs.map (·.1))/\fs.length<=1000/\H dx=some (.own a):=by
 obtain⟨d,z,ne,ob,mA,n,r,q⟩:=(show ObjOk P w H h a (.ins C dx fs) from hok a _ e);exact⟨mA,⟨ob,n,ne⟩,r,q,z,d⟩
end
structure Cls (K:PySem.W.Frag) (C:Addr):Prop where
 pg:PySem.W.plainGet K C Str.empty=true
 hd:PySem.W.hasDictIn K C=true
 po:PySem.W.plainOver K C=true
 sa:PySem.W.findIn K (.ref C) "__setattr__"=some (some (.builtin "object.__setattr__"))
theorem Cls.get {K:PySem.W.Frag} {C:Addr} (c:Cls K C) (f:Str):PySem.W.plainGet K C f=true:=c.pg
section
variable {X:Cx} {pins:List (Addr × Obj)} {σ:St} {H:Hp} {s:Shared} {a C dx:Addr} {fs:List (Str × V)} {f:Str} {v:V} {A:Around} {E:Value->Shared->Prop}
theorem Inv.made (I:Inv X pins σ H s):Inv X pins σ (upd (upd H s.heap.objs.size (.own (s.heap.objs.size+1))) (s.heap.objs.size+1) (.ins C s.heap.objs.size []))
  { s with heap:=(s.heap.push PySem.W.emptyDict).push (PySem.W.instObj C s.heap.objs.size) }:=by
 have e1:(s.heap.push PySem.W.emptyDict).get? s.heap.objs.size=some PySem.W.emptyDict:=Heap.get?_push_size s.heap rfl;have e2:((s.heap.push PySem.W.emptyDict).push (PySem.W.instObj C s.heap.objs.size)).get? (s.heap.objs.size+1)=some (PySem.W.instObj C s.heap.objs.size):=by
  have:=Heap.get?_push_size (s.heap.push PySem.W.emptyDict) (o:=PySem.W.instObj C s.heap.objs.size) rfl
  rwa [Heap.size_push] at this
 have e3:(s.heap.push PySem.W.emptyDict).Ns s.heap.objs.size (fun _=>none):=⟨PySem.W.emptyDict,#[],_,e1,rfl,(fun e he=>absurd he (by simp)),fun _=>rfl⟩;have I1:=I.laid (a:=s.heap.objs.size) (o:=.own (s.heap.objs.size+1)) (h':=s.heap.push PySem.W.emptyDict) (t':=s.toks) (fun b u q=>Heap.get?_push_of_some _ q) (xae _) ⟨_,e1⟩;refine I1.laid (a:=s.heap.objs.size+1) (o:=.ins C s.heap.objs.size []) (t':=s.toks) (fun b u q=>Heap.get?_push_of_some _ q) (xco (Heap.size_push _ _)) ?_;have ne:s.heap.objs.size≠s.heap.objs.size+1:=xan (xcg _);refine⟨by rw[jaC ne,jaf],xaG _,ne,e2,fun _=>none,(Heap.Ns1.of_empty e3).at fun o q=>Heap.get?_push_of_some _ q,fun _=>True.intro,fun y hy=>absurd rfl hy⟩
end
section
variable {X:Cx} {pins:List (Addr × Obj)} {σ:St} {H:Hp} {s:Shared} {A:Around} {E:Value->Shared->Prop} {Q:Value->Shared->Prop} {c:Value} {b:Bool}
inductive TyOf (K:PySem.W.Frag) (H:Hp):V->Value->Prop where
 | non:TyOf K H .non (.type "NoneType")
 | bl (x:Bool):TyOf K H (.bl x) (.type "bool")
 | int (i:Int):TyOf K H (.int i) (.type "int")
 | str (x:Str):TyOf K H (.str x) (.type "str")
 | flt (x:UInt64):TyOf K H (.flt x) (.type "float")
 | lst {a:Addr} {xs:List V} (e:H a=some (.lst xs)):TyOf K H (.ref a) (.type "list")
 | frz {a:Addr} {o:Obj} {xs:List V} (e:H a=some (.frz o (.lst xs))):TyOf K H (.ref a) (.type "list")
 | tup {a:Addr} {xs:List V} (e:H a=some (.tup xs)):TyOf K H (.ref a) (.type "tuple")
 | dK {a:Addr} {kvs:List (Key × V)} (e:H a=some (.dK kvs)):TyOf K H (.ref a) (.type "dict")
 | dT {a:Addr} {kvs:List (List Key × V)} (e:H a=some (.dT kvs)):TyOf K H (.ref a) (.type "dict")
 | ins {a C dx:Addr} {fs:List (Str × V)} (e:H a=some (.ins C dx fs)) (cl:Cls K C) (ha:PySem.W.findIn K (.ref C) "__class__"=some (some (.builtin "object.__class__")))
   (hn:PySem.W.specialIn K (.builtin "object.__class__") "__get__"=some (some (.builtin "getset_descriptor.__get__"))) (htk:PySem.W.takesIn K (.builtin "object.__class__")=some true)
   (hm:PySem.W.mroIn K C (.type "object")=some true):TyOf K H (.ref a) (.ref C)
theorem jiR {x:V} {u t:Value} (I:Inv X pins σ H s) (rx:RelV x u) (ty:TyOf X.K H x t) (e:PySem.W.kitOne X.K t c=some b) (h:∀tk,Q (.bool b) { s with toks:=tk }) :
    wpAny (model X.prog X.w) A (call (.builtin "isinstance") [u,c]) Q E s:=by
  cases ty with
  | non=>cases (show u=Value.none from rx);exact PySem.W.kia_one PySem.W.kitx_none I.kIn True.intro e (fun z=>nomatch z) h
  | bl y=>cases (show u=Value.bool y from rx);exact PySem.W.kia_one PySem.W.kitx_bool I.kIn True.intro e (fun z=>nomatch z) h
  | int i=>obtain⟨t,q⟩:=(show ∃t,u=Value.int i t from rx);cases q;exact PySem.W.kia_one PySem.W.kitx_int I.kIn True.intro e (fun z=>nomatch z) h
  | str y=>obtain⟨t,q⟩:=(show ∃t,u=Value.str y t from rx);cases q;exact PySem.W.kia_one PySem.W.kitx_str I.kIn True.intro e (fun z=>nomatch z) h
  | flt y=>obtain⟨t,q⟩:=(show ∃t,u=Value.float y t from rx);cases q;exact PySem.W.kia_one PySem.W.kitx_float I.kIn True.intro e (fun z=>nomatch z) h
  | @lst a xs ea =>
    cases (show u=Value.ref a from rx);obtain⟨_,_,n,_,h1⟩:=(show ObjOk X.prog X.w H s.heap a (.lst xs) from I.hok a _ ea);exact PySem.W.kia_one PySem.W.kitx_list I.kIn ⟨_,h1,rfl⟩ e (fun z=>nomatch z) h
  | @frz a ob xs ea =>
    cases (show u=Value.ref a from rx);obtain⟨_,_,_,n,_,h1⟩:=(show ObjOk X.prog X.w H s.heap a (.frz ob (.lst xs)) from I.hok a _ ea);exact PySem.W.kia_one PySem.W.kitx_list I.kIn ⟨_,h1,rfl⟩ e (fun z=>nomatch z) h
  | @tup a xs ea =>
    cases (show u=Value.ref a from rx);obtain⟨_,_,_,p⟩:=(show ObjOk X.prog X.w H s.heap a (.tup xs) from I.hok a _ ea);obtain⟨o,h1,h2,_⟩:=p;exact PySem.W.kia_one PySem.W.kitx_tuple I.kIn ⟨o,h1,h2⟩ e (fun z=>nomatch z) h
  | @dK a kvs ea =>
    cases (show u=Value.ref a from rx);obtain⟨_,_,vs,_,p⟩:=(show ObjOk X.prog X.w H s.heap a (.dK kvs) from I.hok a _ ea);obtain⟨o,es,ep,h1,h2,_⟩:=p;exact PySem.W.kia_one PySem.W.kitx_dict I.kIn ⟨o,h1,h2.1⟩ e (fun z=>nomatch z) h
  | @dT a kvs ea =>
    cases (show u=Value.ref a from rx);obtain⟨_,_,xs,_,o,es,ep,h1,h2,_⟩:=(show ObjOk X.prog X.w H s.heap a (.dT kvs) from I.hok a _ ea);exact PySem.W.kia_one PySem.W.kitx_dict I.kIn ⟨o,h1,h2.1⟩ e (fun z=>nomatch z) h
  | @ins a C dx fs ea cl ha hn htk hm =>
    cases (show u=Value.ref a from rx);obtain⟨mA,O,_⟩:=jm3 I.hok ea;obtain⟨od,J,_⟩:=O.look;exact PySem.W.kia_one (PySem.W.kitx_own (cl.get _) cl.hd ha hn htk hm) I.kIn J e (fun z=>nomatch z) h
end
structure Room (k:Nat) (A:Around):Prop where
 hd:A.handled=none
 dp:A.depth+3*k+5<recursionLimit
 un:A.units+16*k+200<cLine
theorem Room.mono {j k:Nat} {A:Around} (r:Room k A) (h:j<=k):Room j A:=⟨r.hd,by have:=r.dp;omega,by have:=r.un;omega⟩
theorem Room.m {j k:Nat} {A:Around} (r:Room k A) (h:j≤k:=by decide):Room j A:=r.mono h
theorem Room.deeper {k:Nat} {A:Around} (r:Room (k+1) A) (env:Env):Room k (A.deeper env) :=
 ⟨r.hd,by have:=r.dp;show A.depth+1+3*k+5<_;omega,by have:=r.un;show A.units+3+16*k+200<_;omega⟩
theorem Room.in1 {k:Nat} {A:Around} (r:Room (k+1) A):Room k A.in1 :=
 ⟨r.hd,by have:=r.dp;show A.depth+3*k+5<_;omega,by have:=r.un;show A.units+1+16*k+200<_;omega⟩
theorem Room.depth {k:Nat} {A:Around} (r:Room k A):A.depth<recursionLimit:=by have:=r.dp;omega
theorem Room.units {k:Nat} {A:Around} (r:Room k A):A.units+64<cLine:=by have:=r.un;omega
def jkQ:TA:=fun _ H Q=>Q [] H
def jeQ (ta:TE) (tr:TA):TA:=fun σ H Q=>ta σ H fun x H1=>tr σ H1 fun xs H2=>Q (x::xs) H2
section
variable {X:Cx} {e:Expr} {es:List Expr} {te:TE} {t:TA} {pos:Pos}
theorem jac:PA X [] jkQ:=fun _ _ _ _ H Q I h=>Calls.spliced_nil ⟨[],H,I,.nil,h⟩
theorem jaa (ha:PE X e te) (hr:PA X es t) (hs:starEach (e::es) X.env=(false,eval e X.env)::starEach es X.env:=by rfl):PA X (e::es) (jeQ te t):=by
 intro pos pins s σ H Q I h;rw[hs];show wpAny _ _ (spliced ((false,eval e X.env)::backTo pos (starEach es X.env))) _ _ s;refine Calls.spliced_cons (thn (ha pins s σ H _ I h) fun u s1 ⟨x,H1,I1,r1,q1⟩=>?_);exact thn (hr pos pins s1 σ H1 _ I1 q1) fun us s2 ⟨xs,H2,I2,r2,q2⟩=>⟨x::xs,H2,I2,.cons r1 r2,q2⟩
def jm4 (t:TA):TE:=fun σ H Q=>t σ H fun xs H1=>xs.length<=sizeLine/\∀p,H1 p=none->Q (.ref p) (upd H1 p (.tup xs))
def jl3 (t:TA):TE:=fun σ H Q=>t σ H fun xs H1=>xs.length<=sizeLine/\∀p,H1 p=none->Q (.ref p) (upd H1 p (.lst xs))
theorem jaQ {x1} (h:PA X es t):PE X (.Tuple es x1 pos) (jm4 t):=by
 intro pins s σ H Q I hq;refine wpAny_Tuple_spliced (thn (h pos pins s σ H _ I hq) fun us s1 ⟨xs,H1,I1,r,z,q⟩=>⟨by rw[<- r.length];exact z,?_⟩);have hf:H1 s1.heap.objs.size=none:=I1.hok.fresh (xae _);refine⟨.ref s1.heap.objs.size,upd H1 s1.heap.objs.size (.tup xs),I1.laid (t':=s1.toks) (fun b u e=>Heap.get?_push_of_some _ e) (xae _) ?_,rfl,q _ hf⟩;exact⟨z,us,r,⟨_,Heap.get?_push_size _ rfl,rfl,_,rfl⟩⟩
theorem jbs (h:PA X es t):PE X (.List es pos) (jl3 t):=by
 intro pins s σ H Q I hq;refine wpAny_List_spliced (thn (h pos pins s σ H _ I hq) fun us s1 ⟨xs,H1,I1,r,z,q⟩=>⟨by rw[<- r.length];exact z,?_⟩);have hf:H1 s1.heap.objs.size=none:=I1.hok.fresh (xae _);refine⟨.ref s1.heap.objs.size,upd H1 s1.heap.objs.size (.lst xs),I1.laid (t':=s1.toks) (fun b u e=>Heap.get?_push_of_some _ e) (xae _) ?_,rfl,q _ hf⟩;exact⟨z,us,0,r,Heap.get?_push_size _ rfl⟩
end
abbrev Sp:=List V->Hp->VK->XK->Prop
abbrev CXT:=List Env->Hp->Shared->XK->Value->Shared->Prop
structure Env0 (P:Program) (w:World) (K:PySem.W.Frag) (mg:Str->Option Value) (base:Heap) (A:Around) (outer:List Env) (s:Shared) (H:Hp):Prop where
 frames:A.frames=some outer
 mod:Mod K mg base
 bs:∀b o,base.get? b=some o->s.heap.get? b=some o/\H b=none
 bsz:base.objs.size<=s.heap.objs.size
 funs:s.heap.FunFrames base outer
 frf:∀b∈frs outer,H b=none
 hok:HOk P w H s.heap
 bare:AllBare s.gens
def CE (outer:List Env) (P:Program) (w:World) (H:Hp) (s:Shared) (Q:VK) (u:Value) (s':Shared):Prop :=
 ∃v H',s'.os=s.os/\AllBare s'.gens/\Un (frs outer) [] H H' s.heap s'.heap/\HOk P w H' s'.heap/\RelV v u/\Q v H'
def CR (CX:CXT) (outer:List Env) (P:Program) (w:World) (H:Hp) (s:Shared) (Q:VK) (E:XK) (r:Result) (s':Shared):Prop :=
 match r with
 | .ok (.ret u)=>CE outer P w H s Q u s'
 | .ok _=>False
 | .error e=>CX outer H s E e s'
structure FnOk (P:Program) (w:World) (K:PySem.W.Frag) (mg:Str->Option Value) (base:Heap) (CX:CXT) (k:Nat) (f:Addr) (fd:FuncData) (ps:List Str) (sp:Sp):Prop where
 len:∀vs H Q E,sp vs H Q E->vs.length=ps.length
 run:∀(A:Around) (outer:List Env) (s:Shared) (H:Hp) (args:Args) (us:List Value) (vs:List V) (Q:VK) (E:XK),Room k A->Env0 P w K mg base A outer s H->BindsTo s fd args (ps.zip us)->Vals vs us->sp vs H Q E ->
  codeAny (model P w) A (.call (.ref f) args) (CR CX outer P w H s Q E) s
theorem FnOk.mono {P:Program} {w:World} {K:PySem.W.Frag} {mg:Str->Option Value} {base:Heap} {CX:CXT} {j k:Nat} {f:Addr} {fd:FuncData} {ps:List Str} {sp:Sp} (F:FnOk P w K mg base CX j f fd ps sp) (h:j<=k) :
  FnOk P w K mg base CX k f fd ps sp:=⟨F.len,fun A outer s H args us vs Q E hr=>F.run A outer s H args us vs Q E (hr.mono h)⟩
theorem FnOk.imp {P:Program} {w:World} {K:PySem.W.Frag} {mg:Str->Option Value} {base:Heap} {CX:CXT} {k:Nat} {f:Addr} {fd:FuncData} {ps:List Str} {sp sp':Sp} (F:FnOk P w K mg base CX k f fd ps sp)
  (h:∀vs H Q E,sp' vs H Q E->sp vs H Q E):FnOk P w K mg base CX k f fd ps sp' :=
 ⟨fun vs H Q E q=>F.len vs H Q E (h _ _ _ _ q),fun A outer s H args us vs Q E hr he hb hv hs=>F.run A outer s H args us vs Q E hr he hb hv (h _ _ _ _ hs)⟩
theorem Env0.in1 {P:Program} {w:World} {K:PySem.W.Frag} {mg:Str->Option Value} {base:Heap} {A:Around} {outer:List Env} {s:Shared} {H:Hp} (e:Env0 P w K mg base A outer s H) :
  Env0 P w K mg base A.in1 outer s H:=⟨e.frames,e.mod,e.bs,e.bsz,e.funs,e.frf,e.hok,e.bare⟩
section
variable {X:Cx} {pins:List (Addr × Obj)} {σ:St} {H:Hp} {s s':Shared}
theorem Inv.env0 (I:Inv X pins σ H s):Env0 X.prog X.w X.K X.mg X.base X.A X.stack s H :=
 ⟨I.ok.frames,I.ok.mod,I.bs,xaE I.ok.bsz I.sz,I.stack,I.stkFree,I.hok,I.bare⟩
theorem Inv.after {Q:VK} {u:Value} (I:Inv X pins σ H s) (h:CE X.stack X.prog X.w H s Q u s'):EP X pins σ Q u s':=by
 obtain⟨v,H',os,bare,un,hok,r,q⟩:=h;obtain⟨hh,g,d,t,os'⟩:=s';obtain rfl:os'=s.os:=os;exact⟨v,H',I.call (h':=hh) (g':=g) (d':=d) (t':=t) (ch:=[]) un hok bare (fun b z=>absurd z (by simp)),r,q⟩
end
def jh3 (sp:Sp) (dvs:List V) (E:XK) (t:TA):TE:=fun σ H Q=>t σ H fun vs H1=>sp (vs++dvs) H1 Q E
def Binds (K:PySem.W.Frag) (fd:FuncData) (ps:List Str) (ds:List Value):Prop :=
 ∀(s:Shared) (us:List Value),K.In s.heap->(us++ds).length=ps.length->BindsTo s fd ⟨us,[]⟩ (ps.zip (us++ds))
theorem Binds.all {K:PySem.W.Frag} {fd:FuncData} {ps:List Str} (h:∀us:List Value,us.length=ps.length->bindArgs fd ⟨us,[]⟩=pure (ps.zip us)):Binds K fd ps []:=fun s us _ hl=>by
 rw[xbx] at hl |-
 exact .of_eq (h us hl)
def jg5 (CX:CXT) (X:Cx) (E:XK):Prop:=∀(pins:List (Addr × Obj)) (σ:St) (H:Hp) (s:Shared) (e:Value) (s':Shared),Inv X pins σ H s->CX X.stack H s E e s'->X.xe e s'
section
variable {X:Cx} {CX:CXT} {k:Nat} {f C:Addr} {fd:FuncData} {ps:List Str} {sp:Sp} {dvs:List V} {ds:List Value} {E:XK} {x m:Str} {p pos apos:Pos} {e o:Expr} {es:List Expr} {ta:TE} {t:TA}
theorem joN {pins:List (Addr × Obj)} {σ:St} {H:Hp} {s:Shared} {Q:VK} {us:List Value} {vs:List V} (F:FnOk X.prog X.w X.K X.mg X.base CX k f fd ps sp) (hr:Room k X.A) (hb:Binds X.K fd ps ds) (hd:Vals dvs ds) (hx:jg5 CX X E)
    (I:Inv X pins σ H s) (r:Vals vs us) (h:sp (vs++dvs) H Q E):wpAny (model X.prog X.w) X.A (call (.ref f) us) (EP X pins σ Q) X.xe s:=by
  have r2:Vals (vs++dvs) (us++ds):=r.append hd;have hl:(us++ds).length=ps.length:=by rw[<- r2.length];exact F.len _ _ _ _ h
  refine wpAny_call (codeAny_mono (F.run X.A X.stack s H ⟨us,[]⟩ (us++ds) (vs++dvs) Q E hr I.env0 (hb s us I.kIn hl) r2 h) fun r s' hq=>?_);cases r with
  | error e=>exact hx pins σ H s e s' I hq
  | ok fl =>
    cases fl with
    | ret u=>exact I.after hq
    | next=>exact False.elim hq
    | brk=>exact False.elim hq
    | cont=>exact False.elim hq
theorem jm5 (F:FnOk X.prog X.w X.K X.mg X.base CX k f fd ps sp) (hr:Room k X.A) (hg:Gl X x) (hm:X.mg x=some (.ref f)) (hk:PySem.W.keepIn X.K (.ref f)=true) (hb:Binds X.K fd ps ds) (hd:Vals dvs ds) (hx:jg5 CX X E)
  (ha:PA X (e::es) t) (hdb:(x==("__debug__":Str))=false:=by decide) (he:starEach (e::es) X.env=(false,eval e X.env)::starEach es X.env:=by rfl) (hpl:(backTo pos (starEach es X.env)).any (·.1)=false:=by rfl) :
  PE X (.Call (.Name x p) (e::es) [] pos) (jh3 sp dvs E t):=by
 intro pins s σ H Q I h;refine wpAny_Call_Name_kw (jiB I hg hm ?_ hdb);refine PySem.W.callWith_K (h₀:=X.base) I.ok.mod.kin hk (thn (ha pos pins s σ H _ I h) fun us s1 ⟨vs,H1,I1,r,q⟩=>⟨I1.kIn,?_⟩) he hpl;exact joN F hr hb hd hx I1 r q
structure Mk (K:PySem.W.Frag) (C f:Addr):Prop where
 makes:PySem.W.makesIn K C=true
 init:PySem.W.findIn K (.ref C) "__init__"=some (some (.ref f))
 fn:PySem.W.isFn K (.ref f)=true
 kp:PySem.W.keepIn K (.ref C)=true
end
section
variable {X:Cx} {CX:CXT} {k:Nat} {f C:Addr} {fd:FuncData} {ps ks:List Str} {sp:Sp} {E:XK} {x m:Str} {p pos apos kpos:Pos} {e o:Expr} {es:List Expr} {kws:List Keyword} {te ta:TE} {t tk:TA} {nm:Option Str}
structure KBinds (K:PySem.W.Frag) (fd:FuncData) (ps ks:List Str) (g:List Value->List Value->List Value) (gV:List V->List V->List V):Prop where
 to:∀(s:Shared) (us ws:List Value),K.In s.heap->(g us ws).length=ps.length->BindsTo s fd ⟨us,ks.zip ws⟩ (ps.zip (g us ws))
 rel:∀{vs:List V} {us:List Value} {zs:List V} {ws:List Value},Vals vs us->Vals zs ws->Vals (gV vs zs) (g us ws)
variable {g:List Value->List Value->List Value} {gV:List V->List V->List V}
end
structure FnScope (N P:List Str) (sc:Scope):Prop where
 kind:sc.kind=.function
 co:sc.isCoroutine=false
 gen:sc.isGenerator=false
 nd:N.Nodup
 pre:N.take P.length=P
 par:∀x∈P,sc.names.lookup x=some .local\/sc.names.lookup x=some .cell
 nofree:∀y∈sc.names,y.2≠.free
theorem jf0 {kindOf:Str->Option NameKind} {x:Str}:∀{binds:List (Str × Value)} {m:Str->Option Value},(∀v,(x,v)∉binds)->bindL kindOf binds m x=m x
  | [],_,_=>rfl
  | (n, v) :: r, m, h => by
    unfold bindL;rw[jf0 fun w hw=>h w (xas _ hw)];split
    . have:x≠n:=by rintro rfl; exact h v xba
      simp [this]
    . rfl
theorem jf1 {kindOf:Str->Option NameKind} {x:Str}:∀{binds:List (Str × Value)} {m:Str->Option Value},(∀v,(x,v)∉binds)->bindC kindOf binds m x=m x
  | [],_,_=>rfl
  | (n, v) :: r, m, h => by
    unfold bindC;rw[jf1 fun w hw=>h w (xas _ hw)];split
    . rfl
    . have:x≠n:=by rintro rfl; exact h v xba
      simp [this]
theorem jf2 {kindOf:Str->Option NameKind} {x:Str} {v:Value}:∀{P:List Str} {vs:List Value} {i:Nat} {m:Str->Option Value},P.Nodup->P[i]?=some x->vs[i]?=some v->kindOf x=some .local ->
    bindL kindOf (P.zip vs) m x=some v
  | [],_,_,_,_,h,_,_=>by simp at h
  | _::_,[],_,_,_,_,h,_=>by simp at h
  | p :: P, w :: vs, 0, m, nd, h1, h2, hk => by
    simp at h1 h2;subst h1;subst h2;show bindL kindOf ((p,w)::P.zip vs) m p=_;unfold bindL;rw[jf0 fun v hv=>(xbn.mp nd).1 (List.of_mem_zip hv).1,if_pos hk];simp
  | p :: P, w :: vs, i + 1, m, nd, h1, h2, hk => by
    show bindL kindOf ((p,w)::P.zip vs) m x=_;unfold bindL;exact jf2 (i:=i) (xbn.mp nd).2 (by simpa using h1) (by simpa using h2) hk
theorem jf3 {kindOf:Str->Option NameKind} {x:Str} {v:Value}:∀{P:List Str} {vs:List Value} {i:Nat} {m:Str->Option Value},P.Nodup->P[i]?=some x->vs[i]?=some v->kindOf x≠some .local ->
    bindC kindOf (P.zip vs) m x=some v
  | [],_,_,_,_,h,_,_=>by simp at h
  | _::_,[],_,_,_,_,h,_=>by simp at h
  | p :: P, w :: vs, 0, m, nd, h1, h2, hk => by
    simp at h1 h2;subst h1;subst h2;show bindC kindOf ((p,w)::P.zip vs) m p=_;unfold bindC;rw[jf1 fun v hv=>(xbn.mp nd).1 (List.of_mem_zip hv).1,if_neg hk];simp
  | p :: P, w :: vs, i + 1, m, nd, h1, h2, hk => by
    show bindC kindOf ((p,w)::P.zip vs) m x=_;unfold bindC;exact jf3 (i:=i) (xbn.mp nd).2 (by simpa using h1) (by simpa using h2) hk
def jdv (N:List Str) (vs:List V):St:=vs.map some++List.replicate (N.length-vs.length) none
def jix (CX:CXT) (P:Program) (w:World) (K:PySem.W.Frag) (mg:Str->Option Value) (base:Heap) (N:List Str) (qual:Str) (scope:Scope) (f:Addr) (cd:Value) (A:Around) (outer:List Env) (s:Shared) (H:Hp) (E:XK):Cx where
 prog:=P
 w:=w
 K:=K
 mg:=mg
 base:=base
 A:=A.deeper (envOfC qual scope s.heap.objs.size f cd)
 N:=N
 s₀:=s
 H₀:=H
 env:=envOfC qual scope s.heap.objs.size f cd
 outer:=outer
 stack:=envOfC qual scope s.heap.objs.size f cd::outer
 ex:=[]
 calm:=true
 fn:=fun _=>true
 pn:=[]
 xe:=fun e s'=>wpAny (model P w) (A.deeper (envOfC qual scope s.heap.objs.size f cd)) (leaving (envOfC qual scope s.heap.objs.size f cd) e) (fun _ s''=>CX outer H s E e s'') (fun e' s''=>CX outer H s E e' s'') s'
theorem jg6 {sc:Scope} {n:Nat} {x:Str} (h:sc.names.lookup x=some .cell):∃c,(cellsFrom n sc.names []).lookup x=some c:=by
 have q:=PySem.W.cellsFrom_some sc.names n [] (.inl h);exact Option.isSome_iff_exists.mp q
theorem jiS {CX:CXT} {P:Program} {w:World} {K:PySem.W.Frag} {mg:Str->Option Value} {base:Heap} {N ps:List Str} {qual:Str} {scope:Scope} {f:Addr} {cd:Value} {A:Around} {outer:List Env} {s s1:Shared} {H:Hp} {E:XK} {us:List Value} {vs:List V}
  (S:FnScope N ps scope) (hd:A.handled=none) (e0:Env0 P w K mg base A outer s H) (hl:vs.length=ps.length) (r:Vals vs us)
  (x:InCallC s s.heap.objs.size (bindL (envOfC qual scope s.heap.objs.size f cd).kindOf (ps.zip us) fun _=>none) (cellsFrom (s.heap.objs.size+1) scope.names []) (bindC (envOfC qual scope s.heap.objs.size f cd).kindOf (ps.zip us) fun _=>none) s1) :
  Inv (jix CX P w K mg base N qual scope f cd A outer s H E) [] (jdv N vs) H s1:=by
 have hpl:ps.length<=N.length:=by have:=congrArg List.length S.pre;rw[xau] at this;omega
 obtain⟨h1,tk,rfl,hk⟩:=x.done;have noA:∀b:Addr,b∉(jix CX P w K mg base N qual scope f cd A outer s H E).ex:=fun b z=>absurd (show b∈([]:List Addr) from z) (by simp);refine⟨⟨e0.mod,S.kind,rfl,rfl,xae _,fun y z c h1 h2=>?_,fun y hy=>?_,fun y c _ h=>?_,fun _=>hd,Around.frames_deeper e0.frames,.inr ⟨rfl,rfl⟩,fun b z=>absurd z (noA b),e0.bs,e0.bsz,fun b _ _=>noA b,fun b z=>absurd z (noA b),e0.funs,e0.frf⟩,
  rfl,e0.bare,Un.kept hk,⟨_,x.toInCall.ns,fun i y v h1 h2 h3=>?_⟩,fun y c h=>⟨_,x.cell y c h⟩,e0.hok.fresh (xae _),fun y c h=>?_,fun p hp=>absurd (show p∈([]:List (Addr × Obj)) from hp) (by simp),e0.hok.kept hk,?_⟩
 ·exact name_of_addr x.apart (PySem.mem_of_lookup h1) (PySem.mem_of_lookup h2)
 ·have hy:scope.names.lookup y=some .cell\/scope.names.lookup y=some .free:=hy;rcases hy with hy | hy
  ·exact jg6 hy
  ·exact absurd rfl (S.nofree _ (PySem.mem_of_lookup hy))
 ·exact xa1 (x.above y c (PySem.mem_of_lookup h))
 ·have hi:i<vs.length:=by
   unfold jdv at h2;by_cases hi:i<vs.length
   ·exact hi
   ·rw[xat (by simpa using hi)] at h2;rw[xb3] at h2;split at h2<;>cases h2
  have ha:vs[i]?=some v:=by
   unfold jdv at h2;rw[xaH (by simpa using hi),xaf] at h2;cases e:vs[i]? with
   | none=>rw[e] at h2;cases h2
   | some a=>rw[e] at h2;cases h2;rfl
  obtain⟨u,hu,rv⟩:=r.get ha;have hp:ps[i]?=some y:=by
   rw[<- S.pre,List.getElem?_take_of_lt (by omega)];exact h1
  have ndP:ps.Nodup:=by rw[<- S.pre];exact S.nd.sublist (List.take_sublist _ _)
  refine⟨u,rv,?_⟩;rcases S.par y (xav hp) with k | k
  ·exact .inl ⟨k,jf2 ndP hp hu k⟩
  ·obtain⟨c,e⟩:=jg6 (n:=s.heap.objs.size+1) k;refine .inr ⟨.inl k,c,e,?_⟩;have q:=x.cell y c e;rw[jf3 ndP hp hu (by show scope.names.lookup y≠_;rw[k];decide)] at q;exact q
 ·exact e0.hok.fresh (xa1 (x.above y c (PySem.mem_of_lookup h)))
 ·unfold jdv;show _=N.length;rw[xad,xaa,xaN];omega
theorem fn_of {CX:CXT} {P:Program} {w:World} {K:PySem.W.Frag} {mg:Str->Option Value} {base:Heap} {k:Nat} {f:Addr} {name qual:Str} {params:Arguments} {body:List Stmt} {scope:Scope} {dV kV doc pm cdv ct oc:Value} {an od:Option Addr}
    {osl:Array (Option Value)} {N ps:List Str} {sp:Sp} (lk:K.lookup f=some ⟨oc,od,.func (PySem.W.fnOf name qual params body scope dV kV doc pm an cdv ct),osl⟩) (hcd:PySem.W.codeIn K cdv qual=true) (S:FnScope N ps scope)
    (len:∀vs H Q E,sp vs H Q E->vs.length=ps.length)
    (hbody:∀(A:Around) (outer:List Env) (s:Shared) (H:Hp) (vs:List V) (Q:VK) (E:XK),Room k (A.deeper (envOfC qual scope s.heap.objs.size f cdv))->sp vs H Q E ->
      ∃t,PSs (jix CX P w K mg base N qual scope f cdv A outer s H E) body t/\t { nx:=fun _ H'=>Q .non H',rt:=Q } (jdv N vs) H) :
    FnOk P w K mg base CX (k+1) f (PySem.W.fnOf name qual params body scope dV kV doc pm an cdv ct) ps sp:=by
  refine⟨len,fun A outer s H args us vs Q E hr e0 hb r hsp=>?_⟩;have hl:=len _ _ _ _ hsp;have KX:K.In s.heap:=e0.mod.kin.keeps fun b o e=>(e0.bs b o e).1;have lim:s.heap.NoLimit:=e0.mod.nolimit.keeps fun b o e=>(e0.bs b o e).1;have hkind:∀y∈ps.zip us,scope.names.lookup y.1=some .local\/(scope.names.lookup y.1=some .cell/\((cellsFrom (s.heap.objs.size+1) scope.names []).lookup y.1).isSome=true):=fun ⟨n,v⟩ hy=>by
    rcases S.par n (List.of_mem_zip hy).1 with q | q
    . exact .inl q
    . exact .inr ⟨q,PySem.W.cellsFrom_some _ _ _ (.inl q)⟩
  refine codeAny_call_function hr.depth (KX _ _ lk) rfl S.co S.gen rfl (PySem.W.codeRec_of KX hcd) (hb _ _ _ _ ?_);refine wpAny_newFunctionEnv_cells S.kind hkind fun env he s1 x=>?_;subst he;refine⟨lim.keeps x.toInCall.keep,codeAny_func ?_⟩;obtain⟨t,ht,hq⟩:=hbody A outer s H vs Q E (hr.deeper _) hsp;have I:Inv (jix CX P w K mg base N qual scope f cdv A outer s H E) [] (jdv N vs) H s1:=jiS S hr.hd e0 hl r x;refine wpAny_mono (ht [] s1 (jdv N vs) H _ I hq) (fun fl s' hs=>?_) fun e s' hs=>hs;have fin:∀{σ':St} {H':Hp} {v:V} {u:Value},Inv (jix CX P w K mg base N qual scope f cdv A outer s H E) [] σ' H' s'->RelV v u->Q v H'->CE outer P w H s Q u s' :=
    fun {σ' H' v u} J rv q=>⟨v,H',J.os,J.bare,J.base,J.hok,rv,q⟩
  cases fl with
  | ret u =>
    obtain⟨v,σ',H',J,rv,q⟩:=hs;exact fin J rv q
  | next =>
    obtain⟨σ',H',J,q⟩:=hs;exact fin (v:=V.non) (u:=Value.none) J rfl q
  | brk =>
    obtain⟨_,_,_,q⟩:=hs;exact False.elim q
  | cont =>
    obtain⟨_,_,_,q⟩:=hs;exact False.elim q
section
variable {X:Cx} {x:Str} {p pos:Pos} {e:Expr} {es:List Expr} {t:TA} {id T:String} {r:List V->Hp->VK->Prop}
def tCB (r:List V->Hp->VK->Prop) (t:TA):TE:=fun σ H Q=>t σ H fun vs H1=>r vs H1 Q
theorem jav (hc:CallR X (.builtin id) r) (hg:Gl X x) (hm:X.mg x=none) (hv:bootBuiltins x=some (.builtin id)) (ha:PA X (e::es) t) (hn:x≠"__name__":=by decide) (hdb:(x==("__debug__":Str))=false:=by decide)
  (he:starEach (e::es) X.env=(false,eval e X.env)::starEach es X.env:=by rfl) (hpl:(backTo pos (starEach es X.env)).any (·.1)=false:=by rfl):PE X (.Call (.Name x p) (e::es) [] pos) (tCB r t):=by
 intro pins s σ H Q I h;refine wpAny_Call_Name_kw (jej I hg hm hv ?_ hn hdb);exact PyProof.Rows.callWith_builtin1 (thn (ha pos pins s σ H _ I h) fun us s1 ⟨vs,H1,I1,r1,q1⟩=>hc pins s1 σ H1 vs us Q I1 r1 q1) he hpl
theorem jaK (hc:CallR X (.type T) r) (hg:Gl X x) (hm:X.mg x=none) (hv:bootBuiltins x=some (.type T)) (ha:PA X (e::es) t) (hn:x≠"__name__":=by decide) (hdb:(x==("__debug__":Str))=false:=by decide)
  (he:starEach (e::es) X.env=(false,eval e X.env)::starEach es X.env:=by rfl) (hpl:(backTo pos (starEach es X.env)).any (·.1)=false:=by rfl):PE X (.Call (.Name x p) (e::es) [] pos) (tCB r t):=by
 intro pins s σ H Q I h;refine wpAny_Call_Name_kw (jej I hg hm hv ?_ hn hdb);exact PyProof.Rows.callWith_type1 (thn (ha pos pins s σ H _ I h) fun us s1 ⟨vs,H1,I1,r1,q1⟩=>hc pins s1 σ H1 vs us Q I1 r1 q1) he hpl
end
end L2
namespace HT
open PySem PyProof.Rows
section
open PySem.SeqAt
open PySem.AutoSeq1 (wpAny_loadPart')
open PySem.MeetsSeq PySem.MeetsSeq2 PySem.MeetsSeq3
end
section
variable {prog:Program} {w:World} {A:Around} {E:Value->Shared->Prop} {s:Shared}
theorem cat_tup {t b:Addr} {vs ws:List Value} {Q:Value->Shared->Prop} (ht:IsTup s.heap t vs.toArray) (hb:IsTup s.heap b ws.toArray) (hv:vs≠[])
  (h1:ws=[]->Q (.ref t) s) (h2:ws≠[]->Q (.ref s.heap.objs.size) { s with heap:=s.heap.push { cls:=.type "tuple",data:=.seq (vs++ws).toArray } })
  (hsz:vs.length+ws.length<=sizeLine):wpAny (model prog w) A (binaryOp .Add (.ref t) (.ref b)) Q E s:=by
 obtain⟨⟨cls,dd,data,sl⟩,ho,hc,n,hd⟩:=id ht;obtain⟨⟨cls2,dd2,data2,sl2⟩,ho2,hc2,n2,hd2⟩:=id hb;simp only at hc hd hc2 hd2;subst hc hd hc2 hd2;have e:vs.toArray++ws.toArray=(vs++ws).toArray:=by simp
 by_cases hw:ws=[]
 ·exact concat_meets ⟨_,ho,rfl⟩ ⟨_,ho2,rfl⟩ noFill_tuple_add seq_tuple_add PySem.F.slot_tuple_add PySem.F.entry_tuple_add (PySem.F.args_tuple_add_2 _ _)
   (tuple_addW1 t b vs.toArray ws.toArray n n2 dd dd2 sl sl2 (by simpa using hv) (by simp [hw])) ⟨ho,ho2,h1 hw⟩
 ·refine concat_meets ⟨_,ho,rfl⟩ ⟨_,ho2,rfl⟩ noFill_tuple_add seq_tuple_add PySem.F.slot_tuple_add PySem.F.entry_tuple_add (PySem.F.args_tuple_add_2 _ _)
   (tuple_addW2 t b vs.toArray ws.toArray n n2 dd dd2 sl sl2 (by simpa using hv) (by simpa using hw) (by rw[xai,xai];exact hsz)) ⟨ho,ho2,?_⟩
  rw[e];exact h2 hw
def sIx (n d:Nat):Option Int->Nat
 | none=>d
 | some v=>if v<0 then (v+(n:Int)).toNat else min v.toNat n
theorem sIx_none (n d:Nat):sIx n d none=d:=rfl
theorem sIx_nat (n d k:Nat):sIx n d (some (k:Int))=min k n:=by
 show (if (k:Int)<0 then ((k:Int)+(n:Int)).toNat else min (k:Int).toNat n)=min k n;rw[if_neg (by omega),xaU]
theorem jl4 (n d:Nat) (hd:d<=n) (o:Option Int):sIx n d o<=n:=by
  cases o with
  | none=>exact hd
  | some v =>
    show (if v<0 then (v+(n:Int)).toNat else min v.toNat n)<=n;by_cases hv:v<0
    . rw[if_pos hv];omega
    . rw[if_neg hv];exact Nat.min_le_right _ _
theorem jiT (v:Int) (n d:Nat):(if v<0 then max (v+(n:Int)) 0 else min v (n:Int))=((sIx n d (some v):Nat):Int):=by
 show (if v<0 then max (v+(n:Int)) 0 else min v (n:Int))=(((if v<0 then (v+(n:Int)).toNat else min v.toNat n):Nat):Int);by_cases hv:v<0
 ·simp only[if_pos hv];omega
 ·simp only[if_neg hv];omega
theorem jh4 (lo hi:Option Int) (n:Nat):Builtin.Slice.sliceAdjust lo hi 1 (n:Int)=(((sIx n 0 lo:Nat):Int),((sIx n n hi:Nat):Int)):=by
 have h1:¬((1:Int)<0):=by omega
 unfold Builtin.Slice.sliceAdjust;simp only[h1,if_false];refine Prod.ext ?_ ?_
 ·cases lo with
  | none=>rfl
  | some v=>exact jiT v n 0
 ·cases hi with
  | none=>rfl
  | some v=>exact jiT v n n
theorem jh5 (i j:Nat):Builtin.Slice.slicePlaces (i:Int) (j:Int) 1=j-i:=by
 unfold Builtin.Slice.slicePlaces;have h1:(1:Int)>0:=by omega
 simp only[h1,if_true,Int.ediv_one];split<;>omega
theorem jeY {v:Value} {o:Option Int} {Q:Option Int->Shared->Prop} (p:IsPart v o) (h:Q o s):wpAny (model prog w) A (Builtin.Slice.slicePartIndex v) Q E s:=by
 cases p with
 | none=>exact slicePart_none h
 | int i t=>exact slicePart_int h
theorem jcw {sl:Addr} {vl vu:Value} {lo hi:Option Int} {n:Nat} {Q:Int × Int × Nat->Shared->Prop} (hs:s.heap.IsSliceOf sl vl vu .none) (pl:IsPart vl lo) (pu:IsPart vu hi)
  (h:Q (((sIx n 0 lo:Nat):Int),1,sIx n n hi-sIx n 0 lo) s):wpAny (model prog w) A (Builtin.Slice.sliceApplied (.ref sl) (pure (n:Int))) Q E s:=by
 obtain⟨os,hos,hcs,hds⟩:=id hs;unfold Builtin.Slice.sliceApplied Builtin.Slice.sliceFields;refine wpAny_bind (wpAny_bind (wpAny_field hos hds (x:=vl) rfl (wpAny_bind (wpAny_field hos hds (x:=vu) rfl (wpAny_bind (wpAny_field hos hds (x:=.none) rfl (wpAny_pure ?_)))))));refine wpAny_bind (slicePart_none ?_);show wpAny _ _ (if ((1:Int)==0)=true then _ else _) _ _ s;rw[if_neg (by decide)];refine wpAny_bind (jeY pl (wpAny_bind (jeY pu (wpAny_bind (wpAny_pure ?_)))));show wpAny _ _ (match Builtin.Slice.sliceAdjust lo hi 1 (n:Int) with | (lo,hi)=>pure (lo,(1:Int),Builtin.Slice.slicePlaces lo hi 1)) _ _ s;rw[jh4 lo hi n];show wpAny _ _ (pure (((sIx n 0 lo:Nat):Int),(1:Int),Builtin.Slice.slicePlaces ((sIx n 0 lo:Nat):Int) ((sIx n n hi:Nat):Int) 1)) _ _ s;rw[jh5];exact wpAny_pure h
theorem jkR (xs:Array Value) (i k:Nat):((List.range k).filterMap fun (m:Nat)=>xs[((i:Int)+(m:Int)*1).toNat]?).toArray=((xs.toList.drop i).take k).toArray:=by
 have e:(fun (m:Nat)=>xs[((i:Int)+(m:Int)*1).toNat]?)=fun m=>xs[i+m]?:=by
  funext m
  have:((i:Int)+(m:Int)*1).toNat=i+m:=by omega
  rw[this]
 rw[e];have:=pick_run xs i k;rw[List.filterMap_map] at this;have e2:((fun x=>xs[x]?)∘fun x=>i+x)=fun m=>xs[i+m]?:=rfl;rw[e2] at this;rw[this]
theorem getItem_tuple_cut {t sl:Addr} {items:Array Value} {vl vu:Value} {lo hi:Option Int} {Q:Value->Shared->Prop} (ht:IsTup s.heap t items) (hs:s.heap.IsSliceOf sl vl vu .none) (pl:IsPart vl lo) (pu:IsPart vu hi)
  (hw:¬(sIx items.size 0 lo=0/\sIx items.size items.size hi=items.size))
  (h:Q (.ref s.heap.objs.size) { s with heap:=s.heap.push { cls:=.type "tuple",data:=.seq ((items.toList.drop (sIx items.size 0 lo)).take (sIx items.size items.size hi-sIx items.size 0 lo)).toArray } })
  (hsz:items.size<=sizeLine):wpAny (model prog w) A (getItem (.ref t) (.ref sl)) Q E s:=by
 have htake:sizeOk (.seq ((items.toList.drop (sIx items.size 0 lo)).take (sIx items.size items.size hi-sIx items.size 0 lo)).toArray):=by
  show ((items.toList.drop (sIx items.size 0 lo)).take (sIx items.size items.size hi-sIx items.size 0 lo)).toArray.size<=sizeLine;rw[xai,xau,xaC,Array.length_toList];omega
 have hj:sIx items.size items.size hi<=items.size:=jl4 _ _ (xae _) hi;obtain⟨os,hos,hcs,hds⟩:=id hs;have hTs:s.TypeIs (.ref sl) "slice":=⟨os,hos,hcs⟩;unfold getItem;try with_reducible refine wpAny_holding ?_
 first | refine wpAny_bind (wpAny_pure ?_) | skip
 refine wpAny_bind (wpAny_sequenceKey ht.typeIs (by decide) ?_);refine wpAny_bind (wpAny_callSpecial?_slot (name:=Str.ofString "__getitem__") ht.typeIs PyProof.Rows.slot_tuple_getitem
  (wpAny_call_entry PyProof.Rows.slot_tuple_getitem ht.typeIs entry_tuple_getitem ?_ (args_tuple_getitem _ _)))
 show wpAny _ _ (Builtin.Tuple.tupleItemsOf (.ref t) >>= _) _ _ s;refine wpAny_bind (tupleItemsOf_ ht ?_);refine wpAny_bind (wpAny_typeOf hTs ?_);rw[if_pos (by decide)];refine wpAny_bind (jcw hs pl pu ?_);have hno:¬((((sIx items.size 0 lo:Nat):Int)==0&&(1:Int)==1&&(sIx items.size items.size hi-sIx items.size 0 lo)==items.size)=true):=by
  intro q;rw[xbM,xbM] at q;have q1:((sIx items.size 0 lo:Nat):Int)=0:=eq_of_beq q.1.1;have q2:sIx items.size items.size hi-sIx items.size 0 lo=items.size:=eq_of_beq q.2;exact hw ⟨by omega,by omega⟩
 show wpAny _ _ (if (((sIx items.size 0 lo:Nat):Int)==0&&(1:Int)==1&&(sIx items.size items.size hi-sIx items.size 0 lo)==items.size)=true then _ else _) _ _ s;rw[if_neg hno,jkR]
 first
  | exact wpAny_bind (m:=Builtin.Tuple.tupleExact _) (wpAny_newObj_type (wpAny_pure ⟨_,rfl,wpAny_pure h⟩) htake)
  | exact wpAny_bind (m:=Builtin.Tuple.tupleExact _) (wpAny_newObj_type (wpAny_bind (wpAny_pure (wpAny_pure ⟨_,rfl,wpAny_pure h⟩))) htake)
  | exact wpAny_bind (wpAny_bind (m:=Builtin.Tuple.tupleExact _) (wpAny_newObj_type (wpAny_pure (wpAny_pure ⟨_,rfl,wpAny_pure h⟩)) htake))
  | exact wpAny_bind (wpAny_bind (m:=Builtin.Tuple.tupleExact _) (wpAny_newObj_type (wpAny_pure ⟨_,rfl,wpAny_pure h⟩) htake))
end
end HT
namespace L2
open PySem PySem.Spec PyProof.Rows
abbrev TO:=St->Hp->(Option Int->Hp->Prop)->Prop
def PO (X:Cx) (e:Option Expr) (t:TO):Prop :=
  ∀ (pins : List (Addr × Obj)) (s : Shared) (σ : St) (H : Hp) (Q : Option Int -> Hp -> Prop), Inv X pins σ H s -> t σ H Q ->
    wpAny (model X.prog X.w) X.A (evalPart e X.env) (fun u s'=>∃o H',Inv X pins σ H' s'/\IsPart u o/\Q o H') X.xe s
def jen:TO:=fun _ H Q=>Q none H
def jiU (t:TE):TO:=fun σ H Q=>t σ H fun x H1=>∃i,x=.int i/\Q (some i) H1
theorem jc1 {ns:List Int}:∀{us:List Value},Vals (ns.map V.int) us->IntsAre us ns:=by
  induction ns with
  | nil=>intro us r;rw[xcp] at r;cases r;exact .nil
  | cons n ns ih =>
    intro us r;rw[xay] at r;cases r with
    | cons r1 r2 =>
      obtain⟨t,e⟩:=r1;subst e;exact .cons n t (ih r2)
section
variable {X:Cx} {e:Expr} {te:TE} {lo hi:Option Expr} {tl th:TO} {pos p2:Pos}
theorem jdi:PO X none jen:=by
 intro pins s σ H Q I h;rw[evalPart_none];exact wpAny_pure ⟨none,H,I,.none,h⟩
theorem jck (h:PE X e te):PO X (some e) (jiU te):=by
 intro pins s σ H Q I hw;rw[evalPart_some];refine thn (h pins s σ H _ I hw) fun u s1 ⟨x,H1,I1,r1,q1⟩=>?_;obtain⟨i,rfl,q⟩:=q1;obtain⟨t,rfl⟩:=r1;exact⟨some i,H1,I1,.int i t,q⟩
def SlR (X:Cx) (r:V->Option Int->Option Int->Hp->VK->Prop):Prop :=
  ∀ (pins : List (Addr × Obj)) (s : Shared) (σ : St) (H : Hp) (x : V) (v vl vu : Value) (lo hi : Option Int) (sl : Addr) (Q : VK), Inv X pins σ H s -> RelV x v -> s.heap.IsSliceOf sl vl vu .none -> IsPart vl lo -> IsPart vu hi -> r x lo hi H Q ->
    ∃T id,typeLookup (.type T) "__getitem__"=pure (some (.builtin id))/\s.TypeIs v T/\wpAny (model X.prog X.w) X.A (getItem v (.ref sl)) (EP X pins σ Q) X.xe s
theorem SlR.or {r r':V->Option Int->Option Int->Hp->VK->Prop} (h:SlR X r) (h':SlR X r'):SlR X (fun x lo hi H Q=>r x lo hi H Q\/r' x lo hi H Q):=by
 intro pins s σ H x v vl vu lo hi sl Q I rx hs pl pu q;rcases q with q | q
 ·exact h pins s σ H x v vl vu lo hi sl Q I rx hs pl pu q
 ·exact h' pins s σ H x v vl vu lo hi sl Q I rx hs pl pu q
def tSl (r:V->Option Int->Option Int->Hp->VK->Prop) (te:TE) (tl th:TO):TE:=fun σ H Q=>te σ H fun x H1=>tl σ H1 fun l H2=>th σ H2 fun u H3=>r x l u H3 Q
theorem jb2 {r:V->Option Int->Option Int->Hp->VK->Prop} (hr:SlR X r) (he:PE X e te) (hl:PO X lo tl) (hu:PO X hi th):PE X (.Subscript e (.Slice lo hi none p2) pos) (tSl r te tl th):=by
 intro pins s σ H Q I h;refine Subscript_ (thn (he pins s σ H _ I h) fun v s1 ⟨x,H1,I1,r1,q1⟩=>?_);refine wpAny_Slice (thn (hl pins s1 σ H1 _ I1 q1) fun vl s2 ⟨l,H2,I2,pl,q2⟩=>thn (hu pins s2 σ H2 _ I2 q2) fun vu s3 ⟨u,H3,I3,pu,q3⟩=>?_);rw[evalPart_none];refine wpAny_pure ?_;have I4:Inv X pins σ H3 { s3 with heap:=s3.heap.push { cls:=.type "slice",data:=.fields #[vl,vu,.none] } }:=I3.kept (t':=s3.toks) fun b ob q=>Heap.get?_push_of_some _ q;obtain⟨T,id,hT,ht,hg⟩:=hr pins { s3 with heap:=s3.heap.push { cls:=.type "slice",data:=.fields #[vl,vu,.none] } } σ H3 x v vl vu l u s3.heap.objs.size Q I4 r1 (Heap.IsSliceOf.new ..) pl pu q3;show wpAny (model X.prog X.w) X.A (subscriptTail e (.Slice lo hi none p2) v (.ref s3.heap.objs.size)) (EP X pins σ Q) X.xe { s3 with heap:=s3.heap.push { cls:=.type "slice",data:=.fields #[vl,vu,.none] } };exact tail_any (ops:=[.ref s3.heap.objs.size,v]) ht hT hg (by with_unfolding_all rfl)
def jeO (xs:List V) (lo hi:Option Int):List V:=(xs.drop (HT.sIx xs.length 0 lo)).take (HT.sIx xs.length xs.length hi-HT.sIx xs.length 0 lo)
theorem jeo (xs:List V) (lo hi:Option Int):(jeO xs lo hi).length<=xs.length:=by
 unfold jeO;rw[xau,xaC];omega
def rSlT (K:PySem.W.Frag):V->Option Int->Option Int->Hp->VK->Prop:=fun x lo hi H Q=>∃a xs,x=.ref a/\SqT K H a xs /\
 ¬(HT.sIx xs.length 0 lo=0/\HT.sIx xs.length xs.length hi=xs.length)/\∀p,H p=none->Q (.ref p) (upd H p (.tup (jeO xs lo hi)))
theorem jl5:SlR X (rSlT X.K):=by
 intro pins s σ H x v vl vu lo hi sl Q I rx hs pl pu h;obtain⟨a,xs,rfl,hx,hw,q⟩:=h;cases rx;obtain⟨its,r,ht,hz⟩:=I.tuple hx;have hlen:its.toArray.size=xs.length:=by rw[xai];exact r.length.symm
 refine⟨"tuple",_,PyProof.Rows.slot_tuple_getitem.lookup,ht.typeIs,?_⟩;refine HT.getItem_tuple_cut ht hs pl pu (by rw[hlen];exact hw) ?_ (by rw[hlen];exact hz);rw[hlen];refine⟨.ref s.heap.objs.size,_,I.laid (t':=s.toks) (o:=.tup (jeO xs lo hi)) (fun b ob q=>Heap.get?_push_of_some _ q) (xae _) ?_,rfl,q _ (I.hok.fresh (xae _))⟩;exact⟨xaE (jeo xs lo hi) hz,_,(r.drop (HT.sIx xs.length 0 lo)).take (HT.sIx xs.length xs.length hi-HT.sIx xs.length 0 lo),IsTup.new _ _⟩
def rCatT (K:PySem.W.Frag):R2:=fun x y H Q=>∃a b xs ys,x=.ref a/\y=.ref b/\SqT K H a xs/\SqT K H b ys/\xs≠[]/\xs.length+ys.length<=sizeLine /\
 (ys=[]->Q (.ref a) H)/\(ys≠[]->∀p,H p=none->Q (.ref p) (upd H p (.tup (xs++ys))))
theorem Vals.nil_iff {xs:List V} {us:List Value} (r:Vals xs us):us=[]↔xs=[]:=by
 cases r with
 | nil=>simp
 | cons _ _=>simp
theorem jiV:OpR X (binaryOp .Add) (rCatT X.K):=by
 intro pins s σ H x y v u Q I rx ry h;obtain⟨a,b,xs,ys,rfl,rfl,ha,hb,hx,hz,q1,q2⟩:=h;cases rx;cases ry;obtain⟨its,r1,p1,_⟩:=I.tuple ha;obtain⟨its2,r2,p2,_⟩:=I.tuple hb;refine HT.cat_tup p1 p2 (fun z=>hx (r1.nil_iff.mp z)) (fun z=>⟨.ref a,H,I,rfl,q1 (r2.nil_iff.mp z)⟩) (fun z=>?_) (by rw[<- r1.length,<- r2.length];exact hz);refine⟨.ref s.heap.objs.size,_,I.laid (t':=s.toks) (o:=.tup (xs++ys)) (fun b ob q=>Heap.get?_push_of_some _ q) (xae _) ?_,rfl,q2 (fun w=>z (r2.nil_iff.mpr w)) _ (I.hok.fresh (xae _))⟩;exact⟨by rw[xad];exact hz,_,r1.append r2,IsTup.new _ _⟩
end
def ixN (n:Nat) (i:Int):Option Nat:=if 0<=i then (if i<n then some i.toNat else none) else if -(n:Int)<=i then some (i+n).toNat else none
def atI {α:Type} (xs:List α) (i:Int):Option α:=(ixN xs.length i).bind fun j=>xs[j]?
theorem jgG {n:Nat} {i:Int} {j:Nat} (h:ixN n i=some j):seqIndex? i n=some j/\j<n/\-(n:Int)<=i/\i<n:=by
 unfold ixN at h;by_cases h0:0<=i
 ·rw[if_pos h0] at h;by_cases h1:i<n
  ·rw[if_pos h1] at h;have e:i.toNat=j:=Option.some.inj h;exact⟨by rw[seqIndex_of h0 h1,e],by omega,by omega,h1⟩
  ·rw[if_neg h1] at h;cases h
 ·rw[if_neg h0] at h;by_cases h1:-(n:Int)<=i
  ·rw[if_pos h1] at h;have e:(i+n).toNat=j:=Option.some.inj h;exact⟨by rw[seqIndex_neg (by omega) h1,e],by omega,h1,by omega⟩
  ·rw[if_neg h1] at h;cases h
theorem jiW {α:Type} {xs:List α} {i:Int} {v:α} (h:atI xs i=some v):∃j,seqIndex? i xs.length=some j/\xs[j]?=some v/\j<xs.length/\-(xs.length:Int)<=i/\i<xs.length:=by
  unfold atI at h;cases e:ixN xs.length i with
  | none=>rw[e] at h;cases h
  | some j =>
    rw[e] at h;obtain⟨h1,h2,h3,h4⟩:=jgG e;exact⟨j,h1,h,h2,h3,h4⟩
theorem jaI {α:Type} {xs:List α} {j:Nat} {v:α} (h:xs[j]?=some v):atI xs (j:Int)=some v:=by
 have hj:j<xs.length:=(xag.mp h).1;have e:ixN xs.length (j:Int)=some j:=by
  unfold ixN;rw[if_pos (by omega),if_pos (by omega)];simp
 unfold atI;rw[e];exact h
theorem jkS {α:Type} (xs:List α) (v:α):atI (xs++[v]) (-1)=some v:=by
 have hl:(xs++[v]).length=xs.length+1:=by simp
 have e:ixN (xs++[v]).length (-1)=some xs.length:=by
  unfold ixN;rw[hl,if_neg (by decide),if_pos (by omega)]
  congr 1
  omega
 unfold atI;rw[e];show (xs++[v])[xs.length]?=some v;simp
def jiX (b:Expr):Prop:=∀o i,subscripted b false o i=operate [o,i] (getItem o i)
def IxR (X:Cx) (r:R2):Prop :=
  ∀ (value slice : Expr) (pins : List (Addr × Obj)) (s : Shared) (σ : St) (H : Hp) (x y : V) (v u : Value) (Q : VK), Inv X pins σ H s -> RelV x v -> RelV y u -> r x y H Q ->
    subscripted slice false v u=operate [v,u] (getItem v u)->wpAny (model X.prog X.w) X.A (subscriptTail value slice v u) (EP X pins σ Q) X.xe s
def MtR (X:Cx) (id:String) (r:V->List V->Hp->VK->Prop):Prop :=
  ∀ (pins : List (Addr × Obj)) (s : Shared) (σ : St) (H : Hp) (x : V) (xs : List V) (v : Value) (us : List Value) (Q : VK), Inv X pins σ H s -> RelV x v -> Vals xs us -> r x xs H Q ->
    wpAny (model X.prog X.w) X.A (call (.builtin id) (v::us)) (EP X pins σ Q) X.xe s
section
variable {X:Cx} {a b:Expr} {ta tb:TE} {pos:Pos}
theorem IxR.or {r r':R2} (h:IxR X r) (h':IxR X r'):IxR X (fun x y H Q=>r x y H Q\/r' x y H Q):=by
 intro value slice pins s σ H x y v u Q I rx ry q hs;rcases q with q | q
 ·exact h value slice pins s σ H x y v u Q I rx ry q hs
 ·exact h' value slice pins s σ H x y v u Q I rx ry q hs
theorem MtR.or {id:String} {r r':V->List V->Hp->VK->Prop} (h:MtR X id r) (h':MtR X id r'):MtR X id (fun x xs H Q=>r x xs H Q\/r' x xs H Q):=by
 intro pins s σ H x xs v us Q I rx rs q;rcases q with q | q
 ·exact h pins s σ H x xs v us Q I rx rs q
 ·exact h' pins s σ H x xs v us Q I rx rs q
theorem jaj {r:R2} (hr:IxR X r) (ha:PE X a ta) (hb:PE X b tb) (hs:jiX b:=by exact fun _ _=>rfl):PE X (.Subscript a b pos) (tOp r ta tb):=by
 intro pins s σ H Q I h;exact Subscript_ (binT ha hb I h fun v u s2 x y H2 I2 rx ry q=>hr a b pins s2 σ H2 x y v u Q I2 rx ry q (hs _ _))
def jos (K:PySem.W.Frag):R2:=fun x y H Q=>∃p xs i v,x=.ref p/\y=.int i/\SqL K H p xs/\atI xs i=some v/\Q v H
def jeZ (K:PySem.W.Frag):R2:=fun x y H Q=>∃p xs i v,x=.ref p/\y=.int i/\SqT K H p xs/\atI xs i=some v/\Q v H
theorem ix_list:IxR X (jos X.K):=by
 intro value slice pins s σ H x y v u Q I rx ry h hs;obtain⟨p,xs,i,z,rfl,rfl,hq,he,q⟩:=h;cases rx;obtain⟨t,rfl⟩:=ry;obtain⟨its,r,pl,hz⟩:=I.list hq;obtain⟨j,h1,h2,h3,h4,h5⟩:=jiW he;obtain⟨w,ew,rw'⟩:=r.get h2;have hl:=r.length;have hn:=jg4;have fin:EP X pins σ Q w s:=⟨z,H,I,rw',q⟩;by_cases h0:0<=i
 ·have hj:i.toNat=j:=by
   rw[seqIndex_of h0 h5] at h1;exact Option.some.inj h1
  exact item_listR pl.isList h0 (by omega) (by rw[hj];simpa using ew) fin hs
 ·have hj:(i+(its.toArray.size:Int)).toNat=j:=by
   rw[seqIndex_neg (by omega) h4] at h1;rw[xai,<- hl];exact Option.some.inj h1
  exact subscriptTail_builtinR (x:=w) pl.isList.typeIs slot_list_getitem.lookup
   (wpAny_getItem_list_neg (Q:=fun r s'=>r=w/\EP X pins σ Q r s') pl.isList (by omega) (by rw[xai]<;>omega) (by omega) (by rw[hj];simpa using ew) ⟨rfl,fin⟩) hs
theorem jao:IxR X (jeZ X.K):=by
 intro value slice pins s σ H x y v u Q I rx ry h hs;obtain⟨p,xs,i,z,rfl,rfl,hq,he,q⟩:=h;cases rx;obtain⟨t,rfl⟩:=ry;obtain⟨its,r,pl,hz⟩:=I.tuple hq;obtain⟨j,h1,h2,h3,h4,h5⟩:=jiW he;obtain⟨w,ew,rw'⟩:=r.get h2;have hl:=r.length;have hn:=jg4;have fin:EP X pins σ Q w s:=⟨z,H,I,rw',q⟩;exact subscriptTail_builtinR (x:=w) pl.typeIs slot_tuple_getitem.lookup
  (getItem_tuple (j:=j) (Q:=fun r s'=>r=w/\EP X pins σ Q r s') pl (by omega) (by omega) (by rw[xai,<- hl];exact h1) (by simpa using ew) ⟨rfl,fin⟩) hs
theorem jh6 (its:List Value) (n j:Nat) (u:Value):Obj.mapSeq (·.setIfInBounds j u) { cls:=.type "list",data:=.seq its.toArray n }={ cls:=.type "list",data:=.seq (its.set j u).toArray n }:=by
 simp [Obj.mapSeq]
theorem Inv.lst {pins:List (Addr × Obj)} {σ:St} {H:Hp} {s:Shared} {p:Addr} {xs:List V} (I:Inv X pins σ H s) (h:H p=some (.lst xs)) :
  ∃(its:List Value) (n:Nat),Vals xs its/\s.heap.get? p=some { cls:=.type "list",data:=.seq its.toArray n }/\xs.length<=sizeLine:=by
 obtain⟨z,its,n,r,e⟩:=I.hok p _ h;exact⟨its,n,r,e,z⟩
theorem Inv.lstUpd {pins:List (Addr × Obj)} {σ:St} {H:Hp} {s:Shared} {p:Addr} {xs ys:List V} {its its':List Value} {n n':Nat} {f:Obj->Obj} (I:Inv X pins σ H s) (h:H p=some (.lst xs))
  (ho:s.heap.get? p=some { cls:=.type "list",data:=.seq its.toArray n }) (hf:f { cls:=.type "list",data:=.seq its.toArray n }={ cls:=.type "list",data:=.seq its'.toArray n' }) (r:Vals ys its') (hz:ys.length<=sizeLine) (t:Nat) :
  Inv X pins σ (upd H p (.lst ys)) { s with heap:=s.heap.update p f,toks:=t }:=by
 have e:(s.heap.update p f).get? p=some { cls:=.type "list",data:=.seq its'.toArray n' }:=by
  rw[Heap.get?_update_self f ho (by rw[hf]<;>rfl),hf]
 refine I.write (x:=p) (e:=p) (by rw[h];trivial) (.inl rfl) (fun b u hb q=>(Heap.get?_update_other _ _ (Ne.symm hb)).trans q) ⟨_,e⟩ ?_;exact⟨hz,its',n',r,e⟩
def rSetL:V->V->V->Hp->(Hp->Prop)->Prop:=fun o i v H Q=>∃p xs k j,o=.ref p/\i=.int k/\H p=some (.lst xs)/\ixN xs.length k=some j/\Q (upd H p (.lst (xs.set j v)))
theorem jfi:PSet X rSetL:=by
 intro pins s σ H o i v ov iv u Q I ro ri rv h;obtain⟨p,xs,k,j,rfl,rfl,hp,hj,q⟩:=h;cases ro;obtain⟨t,rfl⟩:=ri;obtain⟨its,n,r,ho,hz⟩:=I.lst hp;obtain⟨h1,h2,h3,h4⟩:=jgG hj;have hl:=r.length;have hn:=jg4;have I':Inv X pins σ (upd H p (.lst (xs.set j v))) { s with heap:=s.heap.update p (Obj.mapSeq (·.setIfInBounds j u)) } :=
  I.lstUpd hp ho (jh6 its n j u) (r.set rv j) (by rw[List.length_set];exact hz) s.toks
 by_cases h0:0<=k
 ·have hk:k.toNat=j:=by
   rw[seqIndex_of h0 h4] at h1;exact Option.some.inj h1
  exact PySem.W.ki_setAt ho h0 (by omega) (by rw[xai,<- hl];exact h4) (by rw[hk];exact⟨_,I',q⟩)
 ·have hk:(k+(its.toArray.size:Int)).toNat=j:=by
   rw[seqIndex_neg (by omega) h3] at h1;rw[xai,<- hl];exact Option.some.inj h1
  exact PySem.W.ki_setBack ho (by omega) (by rw[xai,<- hl];exact h3) (by omega) (by rw[hk];exact⟨_,I',q⟩)
theorem jf4 (lo hi:Option Int) (n:Nat):(sliceBounds lo hi none n).1=((HT.sIx n 0 lo:Nat):Int)/\(sliceBounds lo hi none n).2.1=((HT.sIx n n hi:Nat):Int)/\(sliceBounds lo hi none n).2.2=1:=by
  refine⟨?_,?_,rfl⟩
  . cases lo with
    | none=>simp [sliceBounds,HT.sIx]
    | some i =>
      simp only[sliceBounds,HT.sIx,Option.getD_none,show (1:Int)>0 by decide,if_true];by_cases h:i<0
      . simp only[h,if_true]<;>omega
      . simp only[h,if_false]<;>omega
  . cases hi with
    | none=>simp [sliceBounds,HT.sIx]
    | some i =>
      simp only[sliceBounds,HT.sIx,Option.getD_none,show (1:Int)>0 by decide,if_true];by_cases h:i<0
      . simp only[h,if_true]<;>omega
      . simp only[h,if_false]<;>omega
theorem jfj (its:List Value) (lo hi:Option Int):slicePick its.toArray lo hi none=((its.drop (HT.sIx its.length 0 lo)).take (HT.sIx its.length its.length hi-HT.sIx its.length 0 lo)).toArray:=by
 obtain⟨h1,h2,h3⟩:=jf4 lo hi its.toArray.size;unfold slicePick;rw[h1,h2,h3];simp only[sliceRange_one,pick_run,xai]<;>rfl
def rSlL (K:PySem.W.Frag):V->Option Int->Option Int->Hp->VK->Prop:=fun x lo hi H Q=>∃a xs,x=.ref a/\SqL K H a xs/\∀p,H p=none->Q (.ref p) (upd H p (.lst (jeO xs lo hi)))
theorem sl_list:SlR X (rSlL X.K):=by
 intro pins s σ H x v vl vu lo hi sl Q I rx hs pl pu h;obtain⟨a,xs,rfl,hx,q⟩:=h;cases rx;obtain⟨its,r,ht,hz⟩:=I.list hx;have hlen:=r.length;refine⟨"list",_,slot_list_getitem.lookup,ht.isList.typeIs,?_⟩;refine wpAny_getItem_list_slice ht.isList hs pl pu .none (by simp) ?_ (by rw[xai]<;>omega);rw[jfj,<- hlen];refine⟨.ref s.heap.objs.size,_,I.laid (t':=s.toks) (o:=.lst (jeO xs lo hi)) (fun b ob q=>Heap.get?_push_of_some _ q) (xae _) ?_,rfl,q _ (I.hok.fresh (xae _))⟩;exact⟨xaE (jeo xs lo hi) hz,_,0,(r.drop (HT.sIx xs.length 0 lo)).take (HT.sIx xs.length xs.length hi-HT.sIx xs.length 0 lo),Heap.get?_push_size _ rfl⟩
def jfk:V->Bool
 | .non=>true
 | .bl _=>true
 | .int _=>true
 | .str _=>true
 | _=>false
def eqV:V->V->Bool
 | .non,.non=>true
 | .bl a,.bl b=>a==b
 | .bl a,.int b=>(if a then 1 else 0)==b
 | .int a,.bl b=>a==(if b then 1 else 0)
 | .int a,.int b=>a==b
 | .str a,.str b=>a==b
 | _,_=>false
theorem joO {A:Around} {s:Shared} {y x:V} {u v:Value} (ry:RelV y u) (rx:RelV x v) (fy:jfk y=true) (fx:jfk x=true):SeqAt.EqAt A s u v (eqV y x):=by
  cases y with
  | non =>
    cases ry;cases x with
    | non=>cases rx;exact SeqAt.EqAt.same _
    | bl b=>cases rx;exact SeqAt.EqAt.none_bool b
    | int b=>obtain⟨t,rfl⟩:=rx;exact SeqAt.EqAt.none_int b t
    | str b=>obtain⟨t,rfl⟩:=rx;exact SeqAt.EqAt.none_str b t
    | _=>exact absurd (show false=true from fx) xar
  | bl a =>
    cases ry;cases x with
    | non=>cases rx;exact SeqAt.EqAt.bool_none a
    | bl b=>cases rx;exact SeqAt.EqAt.bool_bool a b
    | int b=>obtain⟨t,rfl⟩:=rx;exact SeqAt.EqAt.bool_int a b t
    | str b=>obtain⟨t,rfl⟩:=rx;exact SeqAt.EqAt.bool_str a b t
    | _=>exact absurd (show false=true from fx) xar
  | int a =>
    obtain⟨t',rfl⟩:=ry;cases x with
    | non=>cases rx;exact SeqAt.EqAt.int_none a t'
    | bl b=>cases rx;exact SeqAt.EqAt.int_bool a t' b
    | int b=>obtain⟨t,rfl⟩:=rx;exact SeqAt.EqAt.int_int a t' b t
    | str b=>obtain⟨t,rfl⟩:=rx;exact SeqAt.EqAt.int_str a t' b t
    | _=>exact absurd (show false=true from fx) xar
  | str a =>
    obtain⟨t',rfl⟩:=ry;cases x with
    | non=>cases rx;exact SeqAt.EqAt.str_none a t'
    | bl b=>cases rx;exact SeqAt.EqAt.str_bool a t' b
    | int b=>obtain⟨t,rfl⟩:=rx;exact SeqAt.EqAt.str_int a t' b t
    | str b=>obtain⟨t,rfl⟩:=rx;exact SeqAt.EqAt.str_str a t' b t
    | _=>exact absurd (show false=true from fx) xar
  | _=>exact absurd (show false=true from fy) xar
def eqU (x:V) (u:Value):Bool:=match u with
 | .none=>eqV .non x
 | .bool b=>eqV (.bl b) x
 | .int i _=>eqV (.int i) x
 | .str z _=>eqV (.str z) x
 | _=>false
theorem jl6 {x y:V} {u:Value} (r:RelV y u) (f:jfk y=true):eqU x u=eqV y x:=by
 cases y with
 | non=>cases r;rfl
 | bl b=>cases r;rfl
 | int i=>obtain⟨t,rfl⟩:=r;rfl
 | str z=>obtain⟨t,rfl⟩:=r;rfl
 | _=>exact absurd (show false=true from f) xar
theorem jgH {x:V}:∀{xs:List V} {us:List Value},Vals xs us->xs.all jfk=true->us.any (eqU x)=xs.any fun y=>eqV y x
  | _,_,.nil,_=>rfl
  | y :: xs, u :: us, .cons r t, f => by
    rw[List.all_cons,xbM] at f;rw[xch,xch,jl6 r f.1,jgH t f.2]
theorem jfl {A:Around} {s:Shared} {x:V} {v:Value} (rx:RelV x v) (fx:jfk x=true):∀{xs:List V} {us:List Value},Vals xs us->xs.all jfk=true->∀u∈us,SeqAt.EqAt A s u v (eqU x u)
  | _,_,.nil,_=>fun u hu=>by cases hu
  | y :: xs, u :: us, .cons r t, f => fun u' hu => by
    rw[List.all_cons,xbM] at f;rcases xap.mp hu with rfl | hu
    . rw[jl6 r f.1];exact joO r rx f.1 fx
    . exact jfl rx fx t f.2 u' hu
def inV (x:V) (xs:List V):Bool:=xs.any fun y=>eqV y x
def rIn (K:PySem.W.Frag) (neg:Bool):R2:=fun x y H Q=>∃p xs,y=.ref p/\(SqL K H p xs\/SqT K H p xs)/\jfk x=true/\xs.all jfk=true/\Q (.bl (if neg then !inV x xs else inV x xs)) H
theorem jiY:OpR X (compareOp .In) (rIn X.K false):=by
 intro pins s σ H x y v u Q I rx ry h;obtain⟨p,xs,rfl,hq,fx,fs,q⟩:=h;cases ry;rcases hq with hq | hq
 ·obtain⟨its,r,pl,hz⟩:=I.list hq;refine SeqAt.in_listAt (eqU x) pl.isList (fun w hw=>jfl rx fx r fs w (by simpa using hw)) ⟨.bl _,H,I,rfl,?_⟩;rw[show its.toArray.any (eqU x)=its.any (eqU x) by simp,jgH r fs];exact q
 ·obtain⟨its,r,pl,hz⟩:=I.tuple hq;refine SeqAt.in_tupleAt (eqU x) pl (fun w hw=>jfl rx fx r fs w (by simpa using hw)) ⟨.bl _,H,I,rfl,?_⟩;rw[show its.toArray.any (eqU x)=its.any (eqU x) by simp,jgH r fs];exact q
theorem jaJ:CallR X (.builtin "len") (fun xs H Q=>∃p ys,xs=[.ref p]/\(SqL X.K H p ys\/SqT X.K H p ys)/\Q (.int ys.length) H):=by
 intro pins s σ H xs us Q I r h;obtain⟨p,ys,rfl,hq,q⟩:=h;obtain⟨u,rfl,rx⟩:=jdK r;cases rx;have hn:=jg4;rcases hq with hq | hq
 ·obtain⟨its,r',pl,hz⟩:=I.list hq;have hlen:=r'.length;exact Calls.call_len_list pl.isList (by simp only[xai]<;>omega) ⟨.int ys.length,H,I.tok _,⟨s.toks+1,by rw[xai,hlen]⟩,q⟩
 ·obtain⟨its,r',pl,hz⟩:=I.tuple hq;have hlen:=r'.length;exact len_tuple pl (by simp only[xai]<;>omega) ⟨.int ys.length,H,I.tok _,⟨s.toks+1,by rw[xai,hlen]⟩,q⟩
theorem CallR.or {f:Value} {r r':List V->Hp->VK->Prop} (h:CallR X f r) (h':CallR X f r'):CallR X f (fun xs H Q=>r xs H Q\/r' xs H Q):=by
 intro pins s σ H xs us Q I rs q;rcases q with q | q
 ·exact h pins s σ H xs us Q I rs q
 ·exact h' pins s σ H xs us Q I rs q
theorem ja6:CallR X (.type "list") (fun xs H Q=>∃p ys,xs=[.ref p]/\(SqL X.K H p ys\/SqT X.K H p ys)/\∀l,H l=none->Q (.ref l) (upd H l (.lst ys))):=by
 intro pins s σ H xs us Q I r h;obtain⟨p,ys,rfl,hq,q⟩:=h;obtain⟨u,rfl,rx⟩:=jdK r;cases rx;have fin:∀(its:List Value),Vals ys its->ys.length<=sizeLine->∀(h':Heap) (c':Nat),(∀b o',s.heap.get? b=some o'->h'.get? b=some o') ->
   h'.get? s.heap.objs.size=some { cls:=.type "list",dict:=none,data:=.seq its.toArray c',slots:=#[] }->EP X pins σ Q (.ref s.heap.objs.size) { s with heap:=h' }:=fun its r' hz h' c' kp e =>
  ⟨.ref s.heap.objs.size,_,I.laid (t':=s.toks) kp (xae _) (show ObjOk X.prog X.w _ h' _ (.lst ys) from ⟨hz,its,c',r',e⟩),rfl,q _ (I.hok.fresh (xae _))⟩
 rcases hq with hq | hq
 ·obtain⟨its,r',pl,hz⟩:=I.list hq;have hlen:=r'.length;obtain⟨o,ho,hc,n,hd⟩:=pl.isList;exact call_list_seq p (.inl rfl) ho hc hd (fun h' c' kp e=>fin its r' hz h' c' kp e) (by simp only[xai]<;>omega)
 ·obtain⟨its,r',pl,hz⟩:=I.tuple hq;have hlen:=r'.length;obtain⟨o,ho,hc,n,hd⟩:=pl;exact call_list_seq p (.inr rfl) ho hc hd (fun h' c' kp e=>fin its r' hz h' c' kp e) (by simp only[xai]<;>omega)
theorem jbt:CallR X (.type "tuple") (fun xs H Q=>∃p ys,xs=[.ref p]/\((SqL X.K H p ys/\∀l,H l=none->Q (.ref l) (upd H l (.tup ys)))\/(SqT X.K H p ys/\Q (.ref p) H))):=by
 intro pins s σ H xs us Q I r h;obtain⟨p,ys,rfl,h⟩:=h;obtain⟨u,rfl,rx⟩:=jdK r;cases rx;rcases h with ⟨hq,q⟩ | ⟨hq,q⟩
 ·obtain⟨its,r',pl,hz⟩:=I.list hq;have hlen:=r'.length;refine call_tuple_list pl.isList (fun h' kp=>?_) (by simp only[xai]<;>omega);have I1:Inv X pins σ H { s with heap:=h' }:=I.kept (t':=s.toks) kp;have I2:Inv X pins σ (upd H h'.objs.size (.tup ys)) { s with heap:=h'.push { cls:=.type "tuple",data:=.seq its.toArray } } :=
   I1.laid (t':=s.toks) (fun b o e=>Heap.get?_push_of_some _ e) (xae _) (show ObjOk X.prog X.w _ _ _ (.tup ys) from ⟨hz,its,r',IsTup.new _ _⟩)
  exact⟨.ref h'.objs.size,_,I2,rfl,q _ (I1.hok.fresh (xae _))⟩
 ·obtain⟨its,r',pl,hz⟩:=I.tuple hq;exact call_tuple_same pl ⟨.ref p,H,I,rfl,q⟩
def tyV (K:PySem.W.Frag) (T:String) (x:V) (H:Hp):Prop:=match x with
 | .str _=>T="str"
 | .int _=>T="int"
 | .ref p=>(T="list" /\ ∃xs,SqL K H p xs) \/ (T="tuple" /\ ∃o,K.lookup p=some o /\ o.cls=.type "tuple" /\ o.dict=none) \/
   (T="dict"/\((∃kvs,H p=some (.dK kvs))\/∃kvs,H p=some (.dT kvs)))\/(T="set"/\∃S n,H p=some (.set S n))
 | _=>False
theorem jl7 {pins:List (Addr × Obj)} {σ:St} {H:Hp} {s:Shared} {T:String} {x:V} {v:Value} (I:Inv X pins σ H s) (r:RelV x v) (ty:tyV X.K T x H) :
    s.TypeIs v T/\∀a,v=.ref a->∃ob,s.heap.get? a=some ob/\ob.dict=none:=by
  cases x with
  | str z =>
    obtain⟨t,rfl⟩:=r;cases (show T="str" from ty);exact⟨typeIs_str s z t,fun _ e=>nomatch e⟩
  | int i =>
    obtain⟨t,rfl⟩:=r;cases (show T="int" from ty);exact⟨typeIs_int s i t,fun _ e=>nomatch e⟩
  | ref p =>
    cases r;rcases ty with ⟨rfl,xs,hq⟩ | ⟨rfl,o,hk,hc,hd⟩ | ⟨rfl,hk⟩ | ⟨rfl,S,n,hk⟩
    . obtain⟨its,_,pl,_⟩:=I.list hq
      refine⟨pl.isList.typeIs,fun a e=>?_⟩;cases e;obtain⟨o,n,e,c,hd,_⟩:=pl;exact⟨o,e,hd⟩
    . refine⟨⟨o,I.kIn p o hk,hc⟩,fun a e=>?_⟩
      cases e;exact⟨o,I.kIn _ o hk,hd⟩
    . have z:∃o,s.heap.get? p=some o/\o.ExactDict:=by
        rcases hk with ⟨kvs,hk⟩ | ⟨kvs,hk⟩
        . obtain⟨_,_,_,_,o,_,_,e,ex,_⟩:=I.hok p _ hk
          exact⟨o,e,ex⟩
        . obtain⟨_,_,_,_,o,_,_,e,ex,_⟩:=I.hok p _ hk
          exact⟨o,e,ex⟩
      obtain⟨o,e,ex⟩:=z;refine⟨⟨o,e,ex.1⟩,fun a e2=>?_⟩;cases e2;exact⟨o,e,ex.2.1⟩
    . obtain⟨o,_,_,_,e,ex,_⟩:=I.hok p _ hk
      refine⟨⟨o,e,ex.1⟩,fun a e2=>?_⟩;cases e2;exact⟨o,e,ex.2.1⟩
  | _=>exact False.elim ty
def joP (K:PySem.W.Frag) (T:String) (r:V->List V->Hp->VK->Prop) (to:TE):TE:=fun σ H Q=>to σ H fun x H1=>tyV K T x H1/\r x [] H1 Q
def tBM (K:PySem.W.Frag) (T:String) (r:V->List V->Hp->VK->Prop) (to:TE) (t:TA):TE:=fun σ H Q=>to σ H fun x H1=>tyV K T x H1/\t σ H1 fun xs H2=>r x xs H2 Q
variable {o e:Expr} {es:List Expr} {to:TE} {t:TA} {name:Str} {apos cpos:Pos} {T id:String} {r:V->List V->Hp->VK->Prop}
theorem jiZ (pa:PlainAttrs T) (slot:Slot T name id) (hty:typeOf (.builtin id)=pure (.type "method_descriptor")) (hm:MtR X id r) (ho:PE X o to)
  (hbase:attributeBase o name X.env (eval o X.env)=eval o X.env:=by rfl) (hline:(apos.endLine==cpos.line)=true:=by rfl):PE X (.Call (.Attribute o name apos) [] [] cpos) (joP X.K T r to):=by
 intro pins s σ H Q I h;refine wpAny_Call_method0_late hbase hline (thn (ho pins s σ H _ I h) fun v s1 ⟨x,H1,I1,r1,ty,q1⟩=>?_);obtain⟨h1,h2⟩:=jl7 I1 r1 ty;exact⟨T,id,pa,slot,hty,h1,h2,Calls.callWith_builtin rfl (PySem.evalArgs_none (hm pins s1 σ H1 x [] v [] Q I1 r1 .nil q1))⟩
theorem jfm (pa:PlainAttrs T) (slot:Slot T name id) (hty:typeOf (.builtin id)=pure (.type "method_descriptor")) (hm:MtR X id r) (ho:PE X o to) (ha:PA X (e::es) t)
  (hbase:attributeBase o name X.env (eval o X.env)=eval o X.env:=by rfl)
  (hfew:((backTo cpos (starEach (e::es) X.env)).all (fun x=>!x.1)&&(backToKw cpos (keywordEach [] X.env)).all (fun x=>x.1.isSome)
   && decide ((e::es).length+([]:List Keyword).length+(if ([]:List Keyword).isEmpty then 0 else 1)<30))=true:=by rfl)
  (hline:(apos.endLine==cpos.line)=true:=by rfl) (hs:starEach (e::es) X.env=(false,eval e X.env)::starEach es X.env:=by rfl) (hplain:(backTo cpos (starEach es X.env)).any (·.1)=false:=by rfl) :
  PE X (.Call (.Attribute o name apos) (e::es) [] cpos) (tBM X.K T r to t):=by
 intro pins s σ H Q I h;refine wpAny_Call_method_late hbase hfew hline rfl (thn (ho pins s σ H _ I h) fun v s1 ⟨x,H1,I1,r1,ty,q1⟩=>?_);obtain⟨h1,h2⟩:=jl7 I1 r1 ty;refine⟨T,id,pa,slot,hty,h1,h2,?_⟩;have hA:=ha cpos pins s1 σ H1 _ I1 q1;rw[hs] at hA |-
 refine Calls.callWith_builtin (by show (false||(backTo cpos (starEach es X.env)).any (·.1))=false;rw[hplain]<;>rfl) (Calls.evalArgs_plain ?_);exact thn hA fun us s2 ⟨vs,H2,I2,r2,q2⟩=>hm pins s2 σ H2 x vs v us Q I2 r1 r2 q2
end
def MtM (X:Cx) (id:String) (r:V->List V->Hp->VK->Prop):Prop :=
  ∀ (pins : List (Addr × Obj)) (s : Shared) (σ : St) (H : Hp) (x : V) (xs : List V) (v : Value) (us : List Value) (Q : VK), Inv X pins σ H s -> RelV x v -> Vals xs us -> r x xs H Q ->
    wpAny (model X.prog X.w) X.A (call (.builtin id) (v::us)) (EP X pins σ Q) X.xe s
theorem Vals.one:∀{x:V} {us:List Value},Vals [x] us->∃u,us=[u]/\RelV x u
 | _,_,.cons r .nil=>⟨_,rfl,r⟩
theorem Vals.zero:∀{us:List Value},Vals [] us->us=[]
 | _,.nil=>rfl
theorem Vals.eraseIdx:∀{xs:List V} {us:List Value} (i:Nat),Vals xs us->Vals (xs.eraseIdx i) (us.eraseIdx i)
 | _,_,_,.nil=>.nil
 | _,_,0,.cons _ t=>t
 | _,_,i+1,.cons r t=>.cons r (Vals.eraseIdx i t)
theorem Vals.reverse {xs:List V} {us:List Value} (h:Vals xs us):Vals xs.reverse us.reverse:=by
 induction h with
 | nil=>exact .nil
 | cons r t ih=>rw[xaP,xaP];exact Vals.append ih (.cons r .nil)
theorem jf5 {α:Type}:∀(l:List α) (i:Nat),(l.eraseIdx i).length<=l.length
 | [],_=>xae _
 | _::_,0=>xbP _
 | _::r,i+1=>Nat.succ_le_succ (jf5 r i)
section
variable {X:Cx} {pins:List (Addr × Obj)} {σ:St} {H:Hp} {s:Shared} {l b:Addr} {xs ys zs:List V}
theorem Inv.lset {its its':List Value} {n:Nat} {f:Array Value->Array Value} {t':Nat} (I:Inv X pins σ H s) (hH:H l=some (.lst xs))
  (e:s.heap.get? l=some { cls:=.type "list",data:=.seq its.toArray n }) (hf:f its.toArray=its'.toArray) (hv:Vals ys its') (hz:ys.length<=sizeLine) :
  Inv X pins σ (upd H l (.lst ys)) { s with heap:=s.heap.update l (Obj.mapSeq f),toks:=t' }:=by
 have q:=PySem.IsL.update e f;rw[hf] at q;refine I.write (x:=l) (e:=l) (by rw[hH];exact trivial) (.inl rfl) (fun b' u hb hu=>(Heap.get?_update_other s.heap (Obj.mapSeq f) (Ne.symm hb)).trans hu) ⟨_,q⟩ ?_;exact⟨hz,its',_,hv,q⟩
theorem Inv.lnew {its:List Value} {t':Nat} (I:Inv X pins σ H s) (hv:Vals ys its) (hz:ys.length<=sizeLine) :
  Inv X pins σ (upd H s.heap.objs.size (.lst ys)) { s with heap:=s.heap.push { cls:=.type "list",data:=.seq its.toArray },toks:=t' } :=
 I.laid (fun _ _ q=>Heap.get?_push_of_some _ q) (xae _) ⟨hz,its,0,hv,Heap.get?_push_size _ rfl⟩
theorem Inv.fresh (I:Inv X pins σ H s):H s.heap.objs.size=none:=I.hok.fresh (xae _)
theorem Inv.lstM (I:Inv X pins σ H s) (hH:H l=some (.lst xs)):xs.length<=sizeLine/\∃(its:List Value) (n:Nat),Vals xs its/\xs.length=its.length/\s.heap.get? l=some { cls:=.type "list",data:=.seq its.toArray n }:=by
 obtain⟨z,its,n,r,e⟩:=I.hok l _ hH;exact⟨z,its,n,r,r.length,e⟩
end
section
variable {X:Cx}
def ji0:V->List V->Hp->VK->Prop:=fun x vs H Q=>∃l xs y,x=.ref l/\vs=[y]/\H l=some (.lst xs)/\xs.length<sizeLine/\Q .non (upd H l (.lst (xs++[y])))
theorem jbe:MtM X "list.append" ji0:=by
 intro pins s σ H x vs v us Q I rx rv h;obtain⟨l,xs,y,rfl,rfl,hH,hz,q⟩:=h;cases rx;obtain⟨u,rfl,ru⟩:=rv.one;obtain⟨z,its,n,r,hl,e⟩:=I.lstM hH;refine call_meets F.slot_list_append ⟨_,e,rfl⟩ F.entry_list_append (F.args_list_append_2 _ _) (PySem.list_append l its.toArray n u (by rw[xai];omega)) ⟨e,?_⟩;refine⟨.non,_,I.lset (its':=its++[u]) hH e (by simp) (r.append (.cons ru .nil)) ?_,rfl,q⟩;rw[xad,xce];omega
def joQ:V->List V->Hp->VK->Prop:=fun x vs H Q=>∃l xs i k y,x=.ref l/\vs=[.int i]/\H l=some (.lst xs)/\-(2^63)<=i/\i<2^63/\seqIndex? i xs.length=some k/\xs[k]?=some y/\Q y (upd H l (.lst (xs.eraseIdx k)))
theorem jkT:MtM X "list.pop" joQ:=by
 intro pins s σ H x vs v us Q I rx rv h;obtain⟨l,xs,i,k,y,rfl,rfl,hH,h1,h2,hk,hy,q⟩:=h;cases rx;obtain⟨u,rfl,ru⟩:=rv.one;obtain⟨t,rfl⟩:=ru;obtain⟨z,its,n,r,hl,e⟩:=I.lstM hH;obtain⟨w,hw,rw'⟩:=r.get hy;refine call_meets F.slot_list_pop ⟨_,e,rfl⟩ F.entry_list_pop (F.args_list_pop_2 _ _)
  (MeetsSeq.list_pop_at l its.toArray n i t k w (fitsIndex_both h1 h2) (by rw[xai,<- hl];exact hk) (by rw[<- Array.getElem?_toList];exact hw) (by rw[xai];omega)) ⟨e,?_⟩
 refine⟨y,_,I.lset (its':=its.eraseIdx k) hH e ?_ (r.eraseIdx k) ?_,rw',q⟩
 ·show its.toArray.eraseIdxIfInBounds k=(its.eraseIdx k).toArray;rw[List.eraseIdxIfInBounds_toArray]
 ·have:=jf5 xs k;omega
def jkU:V->List V->Hp->VK->Prop:=fun x vs H Q=>∃l xs,x=.ref l/\vs=[]/\H l=some (.lst xs)/\Q .non (upd H l (.lst xs.reverse))
theorem jh7:MtM X "list.reverse" jkU:=by
 intro pins s σ H x vs v us Q I rx rv h;obtain⟨l,xs,rfl,rfl,hH,q⟩:=h;cases rx;have hus:=rv.zero;subst hus;obtain⟨z,its,n,r,hl,e⟩:=I.lstM hH;refine call_meets F.slot_list_reverse ⟨_,e,rfl⟩ F.entry_list_reverse (F.args_list_reverse_1 _) (AutoSeq1.list_reverse_list_0 l its.toArray n (by rw[xai];omega)) ⟨e,?_⟩;refine⟨.non,_,I.lset (its':=its.reverse) hH e (by simp) r.reverse ?_,rfl,q⟩;rw[xaQ];omega
def joR:V->List V->Hp->VK->Prop:=fun x vs H Q=>∃l xs,x=.ref l/\vs=[]/\H l=some (.lst xs)/\Q .non (upd H l (.lst []))
theorem jkV:MtM X "list.clear" joR:=by
 intro pins s σ H x vs v us Q I rx rv h;obtain⟨l,xs,rfl,rfl,hH,q⟩:=h;cases rx;have hus:=rv.zero;subst hus;obtain⟨z,its,n,r,hl,e⟩:=I.lstM hH;refine call_meets F.slot_list_clear ⟨_,e,rfl⟩ F.entry_list_clear (F.args_list_clear_1 _) (AutoSeq1.list_clear_list_0 l its.toArray n (by rw[xai];omega)) ⟨e,?_⟩;exact⟨.non,_,I.lset (its':=[]) (ys:=[]) hH e rfl .nil (xaG _),rfl,q⟩
def rCat:R2:=fun x y H Q=>∃l b xs zs,x=.ref l/\y=.ref b/\H l=some (.lst xs)/\H b=some (.lst zs)/\xs.length+zs.length<=sizeLine/\∀p,H p=none->Q (.ref p) (upd H p (.lst (xs++zs)))
theorem jc7:OpR X (binaryOp .Add) rCat:=by
 intro pins s σ H x y v u Q I rx ry h;obtain⟨l,b,xs,zs,rfl,rfl,hH,hB,hz,q⟩:=h;cases rx;cases ry;obtain⟨z,its,n,r,hl,e⟩:=I.lstM hH;obtain⟨z2,its2,n2,r2,hl2,e2⟩:=I.lstM hB;refine PySem.P.add_list e e2 ?_ (by rw[xai,xai];omega);have ea:its.toArray++its2.toArray=(its++its2).toArray:=by simp
 rw[ea];exact⟨.ref _,_,I.lnew (t':=s.toks) (r.append r2) (by rw[xad];omega),rfl,q _ I.fresh⟩
end
end L2
namespace Att
open PySem PySem.W PySem.Calls PyProof.Rows
theorem jep {P:Params} {h:Heap}:∀(ns:List Int) (vs:List Value),WellAll P h vs (ns.map WData.int)->IntsAre vs ns:=by
  intro ns;induction ns with
  | nil =>
    intro vs w;rw[xcp] at w;cases w;exact .nil
  | cons n ns ih =>
    intro vs w;rw[xay] at w;cases w with
    | cons a b =>
      cases a;exact .cons _ _ (ih _ b)
theorem ji1 {l:OpenLaw} {n:Nat} (hn:l.most=some n) {P:Params} {h:Heap} {args:List WData} {vals:List Value}
    (hpre:l.row.toRowW.claim.pre args=true) (hwl:WellAll P h vals args) :
    ∃a vs ns,vals=[Value.ref a]/\args=[WData.list (ns.map WData.int)]/\h.get? a=some { cls:=.type "list",data:=.seq vs.toArray }/\IntsAre vs ns/\ns.length<=n:=by
  have hsh:WShape.hasAll [] args [.list .int]=true:=(pre_splitW hpre).1;have hc:l.pre.holds [] { args:=args }=true:=(pre_splitW hpre).2;obtain⟨d,r,rfl,h1,h2⟩:=hasAllW_cons hsh;obtain rfl:=hasAllW_nil h2;obtain⟨xs,rfl,h3⟩:=hasW_list h1;obtain⟨ns,rfl⟩:=items_int h3;have hlen:ns.length<=n:=by
    unfold OpenLaw.pre at hc;have h4:(WTm.not (.lt (.lit (.int (n:Int))) (.len (.arg 0)))).holds [] { args:=[.list (ns.map .int)] }=true:=by
      have h4:=(holds_andW hc).1;rw[hn] at h4;exact h4
    have h5:=condW_of h4 (w_not (w_lt w_lit (w_len_list (w_arg rfl))));rw[xaa] at h5;refine Nat.le_of_not_lt fun q=>?_;have q':(n:Int)<((ns.length:Nat):Int):=by omega
    first
      | (rw[decide_eq_true q'] at h5;exact absurd h5 (by decide))
      | (simp at h5;omega)
  cases hwl with
  | cons w1 w2 =>
    cases w2;cases w1 with
    | list ho hall=>exact⟨_,_,ns,rfl,rfl,ho,jep ns _ hall,hlen⟩
theorem ji2 (l:OpenLaw) (args:List WData):l.row.toRowW.claim.post args (.bool true) args=true :=
 postW_of (r:=l.row.toRowW) (X:=(true==true))
  (show WShape.has [] (.bool true) .bool=true by first | rfl | decide | simp [WShape.has,WShape.arms,WShape.armsAll])
  (show (WTm.eq .res (.lit (.bool true))).value [] { args:=args,res:=some (.bool true),after:=args }=some (.bool (true==true)) from w_eq_bool (w_res rfl) w_lit) rfl
theorem attach_call {l:OpenLaw} {n:Nat} {q:Program} {loose:List Str} {XP:(Str->Option Value)->Heap->Prop} {YP:World->Heap->Prop} {d:DefRec}
  (hn:l.most=some n) (hdf:d.params.defaults=[])
  (call:∀(w:World) (s₀ s₁:Shared) (mg mb:Str->Option Value) (fa:Addr) (o:Obj) (pm cd doc:Value) (a:Addr) (vs:List Value) (ns:List Int),
   Ground q loose [] XP w s₀ mg mb s₁.heap->YP w s₁.heap ->
   s₁.heap.get? fa=some o->o.data=.func (docDef d.name d.params d.body d.scope pm cd doc)->s₁.heap.CodeRec cd d.name->mg d.name=some (.ref fa) ->
   s₁.heap.get? a=some { cls:=.type "list",data:=.seq vs.toArray }->IntsAre vs ns->ns.length<=n->s₁.gens=#[] ->
   codeAny (model l.prog w) callerA (.call (.ref fa) ⟨[.ref a],[]⟩) (fun r s'=>r=.ok (.ret (.bool true))/\OldK s₁.heap s'.heap/\s'.os=s₁.os/\AllBare s'.gens) s₁) :
  WalkO q loose XP YP l.row.toRowW d [] (fun f vs=>PySem.call f vs):=by
 intro w s₀ s₁ mg mb G Y fa o pm cd doc dV kV ho hd hcd hD hmg hg args vals as hpre hlay hrd hwl hlo;obtain rfl:dV=.none:=Dflts.none hD hdf;obtain rfl:kV=.none:=Dflts.noKw hD;obtain⟨a,vs,ns,rfl,rfl,hobj,hints,hlen⟩:=ji1 hn hpre hwl;refine enter_call (codeAny_mono (call w s₀ s₁ mg mb fa o pm cd doc a vs ns G Y ho (fd_plain hd) hcd hmg hobj hints hlen hg) fun r s' hq=>?_);obtain⟨rfl,h2,h3,h4⟩:=hq;exact⟨.inl ⟨.bool true,.bool true,[],rfl,fun _=>rfl,.bool true,ji2 l _,fun _=>⟨List.Pairwise.nil,fun _ hm=>(nomatch hm)⟩⟩,h2,h3,h4⟩
end Att
namespace L2
open PySem PySem.Spec PyProof.Rows
theorem jf6:∀{vs:List Value} {ns:List Int},IntsAre vs ns->Vals (ns.map V.int) vs
 | _,_,.nil=>.nil
 | _,_,.cons n t h=>.cons ⟨t,rfl⟩ (jf6 h)
def Only (H:Hp):Prop:=∀b,H b=none\/∃o xs,H b=some (.frz o (.lst xs))
theorem jkW {P:Program} {w:World} {K:PySem.W.Frag} {mg mb:Str->Option Value} {CX:CXT} {k:Nat} {fa a:Addr} {fd:FuncData} {x:Str} {sp:Sp} {s₁:Shared} {vs:List Value} {ns:List Int}
    (KX:K.In s₁.heap) (hns:s₁.heap.Ns mainGlobals mg) (hb:s₁.heap.Ns builtinsNs mb) (hbb:∀x:Str,x≠"__name__"->mb x=bootBuiltins x) (hlim:s₁.heap.NoLimit) (hg:s₁.gens=#[])
    (ha:s₁.heap.get? a=some { cls:=.type "list",data:=.seq vs.toArray }) (hi:IntsAre vs ns) (hl:ns.length<=sizeLine) (hr:Room k callerA)
    (F:∀base:Heap,K.In base->base.Ns mainGlobals mg->FnOk P w K mg base CX k fa fd [x] sp) (hbind:∀(s:Shared) (u:Value),BindsTo s fd ⟨[u],[]⟩ [(x,u)])
    (hsp:∀H:Hp,Only H->SqL K H a (ns.map V.int)->sp [.ref a] H (fun v _=>v=.bl true) fun _ _ _=>False)
    (hCX:∀H e s',CX [] H s₁ (fun _ _ _=>False) e s'->False) :
    codeAny (model P w) callerA (.call (.ref fa) ⟨[.ref a],[]⟩) (fun r s'=>r=.ok (.ret (.bool true))/\OldK s₁.heap s'.heap/\s'.os=s₁.os/\AllBare s'.gens) s₁:=by
  have rv:=jf6 hi;have lenV:=hi.length;have core:∀H:Hp,Only H->SqL K H a (ns.map V.int)->HOk P w H s₁.heap->(∀b,H b≠none->b=a)->(H a≠none->K.lookup a=none) ->
      codeAny (model P w) callerA (.call (.ref fa) ⟨[.ref a],[]⟩) (fun r s'=>r=.ok (.ret (.bool true))/\OldK s₁.heap s'.heap/\s'.os=s₁.os/\AllBare s'.gens) s₁:=by
    intro H hO hS hok hA hK;have base_of:∀{b:Addr} {o:Obj},s₁.heap.get? b=some o->H b=none->(jkJ s₁.heap H).get? b=some o:=fun e n=>jkK e n;have noA:∀{b:Addr} {o:Obj} {es:Array DictEntry} {ep:Nat},s₁.heap.get? b=some o->o.data=.dict es ep->H b=none:=fun {b o es ep} e d=>by
      cases q:H b with
      | none=>rfl
      | some u =>
        have e':b=a:=hA b (by rw[q];simp);subst e';rw[ha] at e;cases e;have d':Data.seq vs.toArray _=Data.dict es ep:=d;cases d'
    have nsK:∀{b:Addr} {m:Str->Option Value},s₁.heap.Ns b m->(jkJ s₁.heap H).Ns b m:=fun {b m} ⟨o,es,ep,e,d,r⟩=>⟨o,es,ep,base_of e (noA e d),d,r⟩;have hKb:K.In (jkJ s₁.heap H):=fun b o e=>base_of (KX b o e) (by
      cases q:H b with
      | none=>rfl
      | some u =>
        have e':b=a:=hA b (by rw[q];simp);subst e';rw[hK (by rw[q];simp)] at e;cases e)
    have hM:Mod K mg (jkJ s₁.heap H):=⟨hKb,nsK hns,⟨mb,nsK hb,hbb⟩,let ⟨mc,h1,h2⟩:=hlim;⟨mc,nsK h1,h2⟩⟩;have e0:Env0 P w K mg (jkJ s₁.heap H) callerA [] s₁ H:=⟨rfl,hM,fun b o e=>jmV e,xco (jiA _ _),trivial,fun b hb=>absurd (show b∈([]:List Addr) from hb) (by simp),hok,.of_eq hg⟩;refine codeAny_mono ((F _ hKb (nsK hns)).run callerA [] s₁ H ⟨[.ref a],[]⟩ [.ref a] [.ref a] _ _ hr e0 (hbind s₁ (.ref a)) (.cons rfl .nil) (hsp H hO hS)) fun r s' h=>?_;cases r with
    | error e=>exact (hCX H e s' h).elim
    | ok fl =>
      cases fl with
      | next=>exact False.elim h
      | brk=>exact False.elim h
      | cont=>exact False.elim h
      | ret u =>
        obtain⟨v,H',os,bare,un,hok',r',q⟩:=h;have q':v=.bl true:=q;subst q';obtain rfl:u=Value.bool true:=r';refine⟨rfl,OldK.of_keep fun b o e=>?_,os,bare⟩;cases q:H b with
        | none=>exact un.keep b o e q (by intro z;exact absurd (show b∈([]:List Addr) from z) (by simp)) (by simp)
        | some u =>
          rcases hO b with z | ⟨ob,xs,z⟩
          . rw[q] at z;cases z
          . have z2:=un.frzs b ob _ z
            obtain⟨e1,_⟩:=hok b _ z;obtain⟨e2,_⟩:=hok' b _ z2;rw[e] at e1;cases e1;exact e2
  cases hk:K.lookup a with
  | some o =>
    have e:=KX a o hk;rw[ha] at e;cases e;refine core (fun _=>none) (fun _=>.inl rfl) (.inr ⟨_,vs.toArray,_,hk,rfl,rfl,rfl,by rw[xai,lenV];exact hl,by simpa using rv⟩) (fun b u z=>by have z':(none:Option HO)=some u:=z;cases z') (fun b z=>absurd rfl z) fun z=>absurd rfl z
  | none =>
    refine core (fun b=>if b=a then some (.frz { cls:=.type "list",data:=.seq vs.toArray } (.lst (ns.map V.int))) else none) (fun b=>?_) (.inl (.inr ⟨{ cls:=.type "list",data:=.seq vs.toArray },if_pos rfl⟩)) (fun b u z=>?_) (fun b z=>?_) fun _=>hk
    . by_cases hb:b=a
      . exact .inr ⟨_,_,if_pos hb⟩
      . exact .inl (if_neg hb)
    . by_cases hb:b=a
      . have z':=(if_pos hb).symm.trans z
        cases z';subst hb;exact⟨ha,by rw[xaa];exact hl,vs,_,rv,ha⟩
      . have z':=(if_neg hb).symm.trans z
        cases z'
    . by_cases hb:b=a
      . exact hb
      . exact absurd (if_neg hb) z
theorem jm6 {l:PySem.W.OpenLaw} {n k:Nat} {q:Program} {loose:List Str} {XP:(Str->Option Value)->Heap->Prop} {YP:World->Heap->Prop} {d:DefRec} {K:Params->PySem.W.Frag} {CX:World->CXT} {sp:World->Sp} {x:Str}
    (hn:l.most=some n) (hn2:n<=sizeLine) (hdf:d.params.defaults=[]) (hr:Room k callerA)
    (hY:∀(w:World) (h:Heap),YP w h->(K w.params).In h)
    (F:∀(w:World) (mg:Str->Option Value) (fa:Addr) (h:Heap),(K w.params).In h->h.Ns mainGlobals mg->mg d.name=some (.ref fa) ->
      ∃ fd : FuncData, (∀ (s : Shared) (u : Value), BindsTo s fd ⟨[u], []⟩ [(x, u)]) /\
        ∀base:Heap,(K w.params).In base->base.Ns mainGlobals mg->FnOk l.prog w (K w.params) mg base (CX w) k fa fd [x] (sp w))
    (hsp:∀(w:World) (H:Hp) (a:Addr) (ns:List Int),ns.length<=n->Only H->SqL (K w.params) H a (ns.map V.int)->sp w [.ref a] H (fun v _=>v=.bl true) fun _ _ _=>False)
    (hCX:∀(w:World) (H:Hp) (s:Shared) (e:Value) (s':Shared),CX w [] H s (fun _ _ _=>False) e s'->False) :
    PySem.W.WalkO q loose XP YP l.row.toRowW d [] (fun f vs=>PySem.call f vs):=by
  refine Att.attach_call hn hdf fun w s₀ s₁ mg mb fa o pm cd doc a vs ns G Y ho hd hcd hmg hobj hints hlen hg=>?_;have KX:=hY w _ Y;obtain⟨fd,hb,hF⟩:=F w mg fa _ KX G.T.g hmg;exact jkW KX G.T.g G.T.b G.T.builtins G.T.nolimit hg hobj hints (xaE hlen hn2) hr hF hb (fun H hO hS=>hsp w H a ns hlen hO hS) fun H e s'=>hCX w H s₁ e s'
def jbC (s:Stmt):Arguments:=match s with
 | .FunctionDef _ a _ _ _ _ _ _ _ _=>a
 | _=>{ posonlyargs:=[],args:=[],vararg:=none,kwonlyargs:=[],kw_defaults:=[],kwarg:=none,defaults:=[] }
def jbc (s:Stmt):List Stmt:=match s with
 | .FunctionDef _ _ b _ _ _ _ _ _ _=>b
 | _=>[]
def jad (s:Stmt):Scope:=match s with
 | .FunctionDef _ _ _ _ _ _ sc _ _ _=>sc
 | _=>{ kind:=.function,names:=[],isGenerator:=false,isCoroutine:=false }
abbrev CX0:CXT:=fun _ _ _ _ _ _=>False
abbrev E0:XK:=fun _ _ _=>False
theorem jat {X:Cx}:jg5 CX0 X E0:=fun _ _ _ _ _ _ _ h=>h.elim
theorem ji3 {n:Nat} (h:n<=1000):n<sizeLine:=xbb h (by decide)
section
variable {X:Cx}
theorem pv (i:Nat) {x:Str} {pos:Pos} (hN:X.N[i]?=some x:=by rfl) (hv:Vis X.env.scope x:=by first | exact Or.inl rfl | exact Or.inr (Or.inl rfl) | exact Or.inr (Or.inr rfl)) (hd:(x==("__debug__":Str))=false:=by decide)
  (hcd:(x==("__classdict__":Str))=false:=by decide):PE X (.Name x pos) (jl0 i):=joC hN hv hd hcd
end
theorem iteT {A B:Prop} (h:A):if true=true then A else B:=by
 rw[if_pos rfl];exact h
theorem jcA {c A B:Prop} [Decidable c] (h1:c->A) (h2:¬c->B):if c then A else B:=by
 by_cases h:c
 ·rw[if_pos h];exact h1 h
 ·rw[if_neg h];exact h2 h
def Same (H H':Hp):Prop:=∀b o,H b=some o->H' b=some o
theorem Same.refl (H:Hp):Same H H:=fun _ _ h=>h
theorem Same.trans {H H1 H2:Hp} (a:Same H H1) (b:Same H1 H2):Same H H2:=fun c o h=>b c o (a c o h)
theorem Same.free {H H':Hp} (e:Same H H') {l:Addr} (h:H' l=Option.none):H l=Option.none:=by
  cases q:H l with
  | none=>rfl
  | some o =>
    rw[e l o q] at h;cases h
theorem Same.seq {K:PySem.W.Frag} {H H':Hp} {a:Addr} {xs:List V} (e:Same H H') (h:SqL K H a xs):SqL K H' a xs:=by
 rcases h with (h | ⟨o,h⟩) | h
 ·exact .inl (.inl (e _ _ h))
 ·exact .inl (.inr ⟨o,e _ _ h⟩)
 ·exact .inr h
section
variable {prog:Program} {w:World} {A:Around} {R:Result->Shared->Prop} {s:Shared}
theorem jdZ {elt target iter:Expr} {ifs:List Expr} {scope:Scope} {pos:Pos} {it acc:Value} {env:Env} (I:Nat->Shared->Prop)
    (turn:∀n s,I n s->wpAny (model prog w) A (pyNext it) (fun r s₁=>match r with
      | none=>R (.ok .next) s₁
      | some v=>wpAny (model prog w) A (letOwnedTupleGo target it v) (fun _ s₁'=>wpAny (model prog w) A (assign target env v) (fun _ s₂ =>
          wpAny (model prog w) A (forIn ifs true fun c r=>if r=true then do let ok <- isTrue c env (eval c env);pure (ForInStep.yield ok) else pure (ForInStep.yield r)) (fun ok s₃ =>
            if ok=true then wpAny (model prog w) A (eval elt env) (fun x s₄ =>
              wpAny (model prog w) A (call (.builtin "list.append") [acc,x]) (fun _ s₅=>∃m,m<n/\I m s₅) (notedBy (model prog w) A env fun e s'=>R (.error e) s') s₄) (notedBy (model prog w) A env fun e s'=>R (.error e) s') s₃
            else ∃m,m<n/\I m s₃) (notedBy (model prog w) A env fun e s'=>R (.error e) s') s₂) (notedBy (model prog w) A env fun e s'=>R (.error e) s') s₁') (notedBy (model prog w) A env fun e s'=>R (.error e) s') s₁) (notedBy (model prog w) A env fun e s'=>R (.error e) s') s)
    (n:Nat) (h:I n s) :
    codeAny (model prog w) A (.compLoop (.ListComp elt [⟨target,iter,ifs,0⟩] scope pos) 0 it acc env) R s:=by
  refine codeAny_loop rfl I (fun n s hI=>?_) n h;show wpAny _ A ((compTurn (.ListComp elt [⟨target,iter,ifs,0⟩] scope pos) 0 it acc env).onRaise (fun x=>do noteFrame x env;theTreesLotGoes x)) _ _ s;refine wpAny_noted ?_;rw[compTurn_list];refine wpAny_bind (wpAny_standAt (wpAny_bind (wpAny_mono (turn n s hI) (fun r s₁ h₁=>?_) fun _ _ h'=>h')));cases r with
  | none=>exact wpAny_pure h₁
  | some v =>
    refine wpAny_bind (wpAny_mono h₁ (fun _ s₁' h₁'=>?_) fun _ _ h'=>h');refine wpAny_bind (wpAny_mono h₁' (fun _ s₂ h₂=>wpAny_bind (wpAny_mono h₂ (fun ok s₃ h₃=>?_) fun _ _ h'=>h')) fun _ _ h'=>h');cases ok with
    | false=>exact wpAny_pure ⟨rfl,h₃⟩
    | true =>
      exact wpAny_bind (wpAny_bind (wpAny_mono h₃ (fun x s₄ h₄=>wpAny_bind (wpAny_mono h₄ (fun _ s₅ h₅=>wpAny_pure (wpAny_pure ⟨rfl,h₅⟩)) fun _ _ h'=>h')) fun _ _ h'=>h'))
end
theorem jdL {env:Env}:∀(names:List (Str × NameKind)) (cs:List (Str × Addr)),(∀y∈names,y.2=.free->∃c,env.cells.lookup y.1=some c) ->
    (∀y c,cs.lookup y=some c->env.cells.lookup y=some c) ->
    ∃cl:List (Str × Addr),(forIn (m:=Sem) names cs fun x r=>do
        if (x.2==NameKind.free)=true then do
          let a <- cellOf env x.1
          pure (ForInStep.yield ((x.1,a)::r))
        else pure (ForInStep.yield r))=pure cl/\(∀y c,cl.lookup y=some c->env.cells.lookup y=some c) /\
      (∀y,((y,NameKind.free)∈names\/∃c,cs.lookup y=some c)->∃c,cl.lookup y=some c)
  | [],cs,_,hc=>⟨cs,rfl,hc,fun y h=>h.elim (fun z=>nomatch z) id⟩
  | (n, k) :: r, cs, hn, hc => by
    by_cases hk:k=.free
    . subst hk
      obtain⟨c,e⟩:=hn (n,.free) xba rfl;have hc':∀y d,((n,c)::cs).lookup y=some d->env.cells.lookup y=some d:=fun y d q=>by
        rw[xaS] at q;cases z:y==n with
        | true =>
          rw[z] at q;have:=beq_iff_eq.mp z;subst this;cases q;exact e
        | false=>rw[z] at q;exact hc y d q
      obtain⟨cl,h1,h2,h3⟩:=jdL r ((n,c)::cs) (fun y hy=>hn y (xas _ hy)) hc';refine⟨cl,?_,h2,fun y hy=>h3 y ?_⟩
      . rw[List.forIn_cons]
        have ec:cellOf env n=pure c:=by unfold cellOf;rw[e]
        show ((if (NameKind.free==NameKind.free)=true then _ else _) >>= _)=_;rw[if_pos (by rfl)];show ((cellOf env n >>= _) >>= _)=_;rw[ec];exact h1
      . rcases hy with hy | ⟨d,hy⟩
        . rcases xap.mp hy with z | z
          . cases z
            exact .inr ⟨c,by rw[xaS,beq_self_eq_true]⟩
          . exact .inl z
        . refine .inr ?_
          rw[xaS];cases z:y==n with
          | true=>exact⟨c,rfl⟩
          | false=>exact⟨d,hy⟩
    . obtain⟨cl,h1,h2,h3⟩:=jdL r cs (fun y hy=>hn y (xas _ hy)) hc
      refine⟨cl,?_,h2,fun y hy=>h3 y ?_⟩
      . rw[List.forIn_cons]
        have hb:(k==NameKind.free)=false:=by simpa using hk
        show ((if (k==NameKind.free)=true then _ else _) >>= _)=_;rw[if_neg (by rw[hb];decide)];exact h1
      . rcases hy with hy | hy
        . rcases xap.mp hy with z | z
          . cases z;exact absurd rfl hk
          . exact .inl z
        . exact .inr hy
theorem jc2 {env:Env} {scope:Scope} (hn:∀y∈scope.names,y.2=.free->∃c,env.cells.lookup y.1=some c) :
  ∃cl:List (Str × Addr),closureFor scope env=pure cl/\(∀y c,cl.lookup y=some c->env.cells.lookup y=some c)/\(∀y,(y,NameKind.free)∈scope.names->∃c,cl.lookup y=some c):=by
 obtain⟨cl,h1,h2,h3⟩:=jdL (env:=env) scope.names [] hn (fun y c q=>nomatch q);refine⟨cl,?_,h2,fun y hy=>h3 y (.inl hy)⟩;unfold closureFor;show (_ >>= fun cs=>pure cs)=_;have e:∀m:Sem (List (Str × Addr)),(m >>= fun cs=>pure cs)=m:=fun m=>bind_pure m;rw[e];exact h1
inductive Ixs (N:List Str) (sc cs:Scope):List Str->List Nat->Prop
 | nil:Ixs N sc cs [] []
 | cons {y r j q} (h1:N[j]?=some y) (h2:sc.names.lookup y=some .cell\/sc.names.lookup y=some .free) (h3:cs.names.lookup y=some .free) (t:Ixs N sc cs r q):Ixs N sc cs (y::r) (j::q)
structure CompScope (N:List Str) (sc:Scope) (N':List Str) (ix:List Nat) (x:Str) (r:List Str) (cs:Scope):Prop where
 eq:N'=x::r
 kind:cs.kind=.function
 hcell:∀y∈cs.names,y.2≠.cell
 hnames:∀y∈cs.names,y.2=.local->cs.names.lookup y.1=some .local
 hx:cs.names.lookup x=some .local
 nd:(x::r).Nodup
 fr:∀y∈cs.names,y.2=.free->sc.names.lookup y.1=some .cell\/sc.names.lookup y.1=some .free
 ixs:Ixs N sc cs r ix
def jaD (σ:St) (ix:List Nat):St:=ix.map fun j=>(σ[j]?).getD none
def jbu (X:Cx) (N':List Str) (cs:Scope) (cl:List (Str × Addr)) (s3:Shared) (H3:Hp) (fp:List Addr):Cx :=
 { X with N:=N',s₀:=s3,H₀:=H3,env:=compEnvC cs cl s3.heap.objs.size X.env,outer:=X.stack,stack:=X.stack,ex:=fp,fn:=fun _=>false,pn:=[],xe:=fun _ _=>False }
theorem jb3 {env:Env} {cs:Scope} (hcell:∀y∈cs.names,y.2≠.cell) {y:Str} {k:NameKind} (h:(relabel cs env).names.lookup y=some k) (hk:k=.cell\/k=.free):(y,NameKind.free)∈cs.names:=by
 have m:=PySem.mem_of_lookup h;obtain⟨⟨n,k0⟩,h1,h2⟩:=xax.mp m;by_cases c:(k0==NameKind.free&&env.scope.kind==.function&&env.kindOf n==some .cell)=true
 ·have h2':(n,NameKind.cell)=(y,k):=by rw[<- h2];exact (if_pos c).symm
  cases h2';have:k0=.free:=by
   have z:=(xbE.mp (xbE.mp c).1).1;exact beq_iff_eq.mp z
  rw[this] at h1;exact h1
 ·have h2':(n,k0)=(y,k):=by rw[<- h2];exact (if_neg c).symm
  cases h2';rcases hk with rfl | rfl
  ·exact absurd rfl (hcell _ h1)
  ·exact h1
theorem ja1 {env:Env}:∀{names:List (Str × NameKind)} {x:Str},names.lookup x=some .free ->
    (names.map fun (n,k)=>if (k==NameKind.free&&env.scope.kind==.function&&env.kindOf n==some .cell) then (n,NameKind.cell) else (n,k)).lookup x=some .cell \/
    (names.map fun (n,k)=>if (k==NameKind.free&&env.scope.kind==.function&&env.kindOf n==some .cell) then (n,NameKind.cell) else (n,k)).lookup x=some .free
  | [],_,h=>by simp at h
  | (n, k) :: r, x, h => by
    have ih:=@ja1 env r x;rw[xay];show List.lookup x ((if (k==NameKind.free&&env.scope.kind==.function&&env.kindOf n==some .cell)=true then (n,NameKind.cell) else (n,k))::_)=_\/List.lookup x ((if (k==NameKind.free&&env.scope.kind==.function&&env.kindOf n==some .cell)=true then (n,NameKind.cell) else (n,k))::_)=_;cases hx:x==n with
    | true =>
      simp only[xaS,hx] at h;cases h;by_cases hc:(NameKind.free==NameKind.free&&env.scope.kind==.function&&env.kindOf n==some .cell)=true
      . rw[if_pos hc];exact .inl (by simp only[xaS,hx])
      . rw[if_neg hc];exact .inr (by simp only[xaS,hx])
    | false =>
      simp only[xaS,hx] at h;by_cases hc:(k==NameKind.free&&env.scope.kind==.function&&env.kindOf n==some .cell)=true
      . rw[if_pos hc];simp only[xaS,hx];exact ih h
      . rw[if_neg hc];simp only[xaS,hx];exact ih h
theorem Ixs.get {N:List Str} {sc cs:Scope}:∀{r:List Str} {ix:List Nat},Ixs N sc cs r ix->∀{i:Nat} {y:Str},r[i]?=some y ->
    ∃j,ix[i]?=some j/\N[j]?=some y/\(sc.names.lookup y=some .cell\/sc.names.lookup y=some .free)/\cs.names.lookup y=some .free
  | _,_,.nil,i,y,h=>by simp at h
  | _,_,.cons h1 h2 h3 t,0,y,h=>by simp at h;subst h;exact⟨_,rfl,h1,h2,h3⟩
  | _, _, .cons h1 h2 h3 t, i + 1, y, h => by
    obtain⟨j,a,b⟩:=Ixs.get t (i:=i) (y:=y) (by simpa using h);exact⟨j,by simpa using a,b⟩
theorem Ixs.len {N:List Str} {sc cs:Scope}:∀{r:List Str} {ix:List Nat},Ixs N sc cs r ix->r.length=ix.length
 | _,_,.nil=>rfl
 | _,_,.cons _ _ _ t=>by rw[xaw,xaw,t.len]
section
variable {X:Cx} {pins:List (Addr × Obj)} {σ:St} {H:Hp} {s:Shared}
theorem Inv.compOk {N' r:List Str} {ix:List Nat} {x:Str} {cs:Scope} {cl:List (Str × Addr)} {fp:List Addr} (I:Inv X pins σ H s) (S:CompScope X.N X.env.scope N' ix x r cs)
  (h2:∀y c,cl.lookup y=some c->X.env.cells.lookup y=some c) (h3:∀y,(y,NameKind.free)∈cs.names->∃c,cl.lookup y=some c) (hf:∀b∈fp,jeW X pins H b) (hfp:∀b∈fp,b<s.heap.objs.size) :
  (jbu X N' cs cl s H fp).Ok where
 mod:=I.ok.mod
 kind:=S.kind
 glob:=I.ok.glob
 blt:=I.ok.blt
 above:=xae _
 inj:=fun a b c ha hb=>I.ok.inj a b c (h2 a c ha) (h2 b c hb)
 has:=fun y hy=>h3 y (hy.elim (fun z=>jb3 S.hcell z (.inl rfl)) fun z=>jb3 S.hcell z (.inr rfl))
 cab:=fun _ _ z=>nomatch z
 hd:=I.ok.hd
 frames:=I.ok.frames
 stk:=.inl rfl
 exf:=fun b hb=>⟨xan (hfp b hb),fun y c e=>(hf b hb).2.2.2.2.1 y c (h2 y c e)⟩
 bs:=I.bs
 bsz:=xaE I.ok.bsz I.sz
 noex:=fun b o e hb=>by
  rcases (hf b hb).2.2.2.1 with z | z
  ·exact I.ok.noex b o e z
  ·exact absurd (xao (Heap.lt_size e) (xaE I.ok.bsz z)) (xbh _)
 exfs:=fun b hb hs=>by
  rcases xap.mp (I.stkSub b hs) with z | z
  ·exact (hf b hb).2.1 z
  ·exact (hf b hb).2.2.1 z
 funs:=I.stack
 frf:=I.stkFree
theorem jdj {σ:St} {ix:List Nat} {i:Nat} {v:V} (h:(jaD σ ix)[i]?=some (some v)):∃j,ix[i]?=some j/\σ[j]?=some (some v):=by
  unfold jaD at h;rw[xaf] at h;cases e:ix[i]? with
  | none=>rw[e] at h;cases h
  | some j =>
    rw[e] at h;refine⟨j,rfl,?_⟩;cases q:σ[j]? with
    | none =>
      have h':((σ[j]?).getD none)=some v:=by simpa using h
      rw[q] at h';cases h'
    | some o =>
      have h':((σ[j]?).getD none)=some v:=by simpa using h
      rw[q] at h';cases o with
      | none=>cases h'
      | some u=>cases h';rfl
theorem Inv.compStart {N' r:List Str} {ix:List Nat} {x:Str} {cs:Scope} {cl:List (Str × Addr)} {fp:List Addr} {h1:Heap} {tk:Nat} {m:Str->Option Value} (I:Inv X pins σ H s) (S:CompScope X.N X.env.scope N' ix x r cs)
    (h2:∀y c,cl.lookup y=some c->X.env.cells.lookup y=some c) (h3:∀y,(y,NameKind.free)∈cs.names->∃c,cl.lookup y=some c) (hf:∀b∈fp,jeW X pins H b) (hfp:∀b∈fp,b<s.heap.objs.size)
    (hn:h1.Ns s.heap.objs.size m) (hk:∀b o,s.heap.get? b=some o->h1.get? b=some o) :
    Inv (jbu X N' cs cl s H fp) [] (none::jaD σ ix) H { s with heap:=h1,toks:=tk }:=by
  have ok:=I.compOk (N':=N') (fp:=fp) S h2 h3 hf hfp;obtain⟨mo,hno,hlo⟩:=id I.loc;refine⟨ok,rfl,I.bare,Un.kept hk,⟨m,hn,fun i y v e1 e2 e3=>?_⟩,fun y c e=>?_,I.hok.fresh (xae _),fun y c e=>I.freeC y c (h2 y c e),fun p hp=>absurd (show p∈([]:List (Addr × Obj)) from hp) (by simp),I.hok.kept hk,?_⟩
  . cases i with
    | zero=>cases e2
    | succ i =>
      have e1':r[i]?=some y:=by
        have:N'[i+1]?=some y:=e1;rw[S.eq] at this;simpa using this
      obtain⟨j,j1,j2,j3,j4⟩:=S.ixs.get e1';obtain⟨j',k1,k2⟩:=jdj (σ:=σ) (ix:=ix) (i:=i) (v:=v) (by simpa using e2);rw[j1] at k1;cases k1;obtain⟨u,ru,lk⟩:=hlo j y v j2 k2 (j3.elim (fun z=>.inr (.inl z)) fun z=>.inr (.inr z));refine⟨u,ru,?_⟩;obtain⟨c,hc⟩:=h3 y (PySem.mem_of_lookup j4);rcases lk with ⟨k,_⟩ | ⟨k,c',e',z⟩
      . have k':X.env.scope.names.lookup y=some .local:=k
        rcases j3 with q | q<;>(rw[q] at k';cases k')
      . rw[h2 y c hc] at e'
        cases e';refine .inr ⟨?_,c,hc,?_⟩
        . exact ja1 (env:=X.env) j4
        . obtain⟨o,ho,hd⟩:=z
          exact⟨o,hk c o ho,hd⟩
  . obtain⟨v,o,ho,hd⟩:=I.cell y c (h2 y c e)
    exact⟨v,o,hk c o ho,hd⟩
  . show (none::jaD σ ix).length=N'.length
    rw[S.eq,xaw,xaw,S.ixs.len];unfold jaD;rw[xaa]
def PTs (X:Cx) (ifs:List Expr) (t:TT):Prop :=
  ∀ (E : Value -> Shared -> Prop) (pins : List (Addr × Obj)) (s : Shared) (σ : St) (H : Hp) (Q : Bool -> Hp -> Prop), (∀ e s', X.xe e s' -> E e s') -> Inv X pins σ H s -> t σ H Q ->
    wpAny (model X.prog X.w) X.A (forIn ifs true fun c r=>if r=true then do let ok <- isTrue c X.env (eval c X.env);pure (ForInStep.yield ok) else pure (ForInStep.yield r)) (TP X pins σ Q) E s
def jcl:TT:=fun _ H Q=>Q true H
theorem jaR {X:Cx}:PTs X [] jcl:=fun _ _ _ _ H _ _ I h=>wpAny_tests_nil ⟨H,I,h⟩
theorem jfn {X:Cx} {c:Expr} {t:TT} (h:PT X c t):PTs X [c] t:=fun _ pins s σ H Q hE I q=>wpAny_tests_one (wpAny_mono (h pins s σ H Q I q) (fun _ _ z=>z) hE)
def CompGo (J:It) (ρ:St) (g:TG) (tt:TT) (te:TE) (acc:Addr) (Z:Hp->Prop) (H1:Hp):Prop :=
  ∃ W : Nat -> Nat -> List V -> Hp -> Prop, (∃ m, W 0 m [] (upd H1 acc (.lst []))) /\ ∀ i m xs H, W i m xs H ->
    ((J.stop i H /\ Z H) \/ (J.go i H /\ ∃ (Nx : V -> Hp -> Prop) (Nn : Hp -> Prop), (∀ y H4, Nx y H4 -> H4 acc = some (.lst xs) /\ xs.length < sizeLine /\ ∃ m', m' < m /\ W (i + 1) m' (xs ++ [y]) (upd H4 acc (.lst (xs ++ [y])))) /\
      (∀H3,Nn H3->∃m',m'<m/\W (i+1) m' xs H3)/\∀v0 x H',J.yld i H x H'->g x (v0::ρ) H' fun σ2 H2=>(∃v,σ2=v::ρ)/\tt σ2 H2 fun b H3=>if b=true then te σ2 H3 Nx else Nn H3))
end
section
variable {X:Cx} {N' r:List Str} {ix:List Nat} {x:Str} {cs:Scope} {tg iter elt:Expr} {ifs:List Expr} {pos:Pos} {wi:TI} {g:TG} {tt:TT} {te:TE}
def jf7 (wi:TI) (ix:List Nat) (g:TG) (tt:TT) (te:TE):TE:=fun σ H Q=>wi σ H fun J H1=>∀acc,H1 acc=none->CompGo J (jaD σ ix) g tt te acc (fun H'=>Q (.ref acc) H') H1
theorem CompScope.clos {sc:Scope} {N:List Str} (S:CompScope N sc N' ix x r cs) {env:Env} (he:env.scope=sc) (has:∀y,(env.kindOf y=some .cell\/env.kindOf y=some .free)->∃c,env.cells.lookup y=some c) :
  ∃cl:List (Str × Addr),closureFor cs env=pure cl/\(∀y c,cl.lookup y=some c->env.cells.lookup y=some c)/\(∀y,(y,NameKind.free)∈cs.names->∃c,cl.lookup y=some c) :=
 jc2 fun y hy hk=>has y.1 (by
  subst he;exact S.fr y hy hk)
end
section
variable {ρ:St} {g:TG} {tt:TT} {te:TE} {acc:Addr} {Z:Hp->Prop} {H1:Hp}
theorem jc3 {lo:Int} {n:Nat} (Pv:Nat->List V->Hp->Prop) (h0:Pv 0 [] (upd H1 acc (.lst [])))
  (hs:∀i xs H,i<n->Pv i xs H->te (some (.int (lo+i))::ρ) H fun y H4=>H4 acc=some (.lst xs)/\xs.length<sizeLine/\Pv (i+1) (xs++[y]) (upd H4 acc (.lst (xs++[y]))))
  (hd:∀xs H,Pv n xs H->Z H):CompGo (Itr lo n) ρ (jbA 0) jcl te acc Z H1:=by
 refine⟨fun i m xs H=>Pv i xs H/\i<=n/\m=n-i,⟨n,h0,xaG _,rfl⟩,?_⟩;rintro i m xs H ⟨hp,hi,rfl⟩;by_cases hlt:i<n
 ·refine .inr ⟨hlt,(fun y H4=>H4 acc=some (.lst xs)/\xs.length<sizeLine/\Pv (i+1) (xs++[y]) (upd H4 acc (.lst (xs++[y])))),fun _=>False,fun y H4 q=>⟨q.1,q.2.1,n-(i+1),by omega,q.2.2,hlt,rfl⟩,fun _ z=>z.elim,?_⟩;rintro v0 x H' ⟨rfl,rfl⟩;exact⟨⟨_,rfl⟩,by simp only[jcl,if_true];exact hs i xs H' hlt hp⟩
 ·have:i=n:=by omega
  subst this;exact .inl ⟨xae _,hd xs H hp⟩
theorem jfo {K:PySem.W.Frag} {a:Addr} {zs:List V} (Pv:Nat->List V->Hp->Prop) (h0:Pv 0 [] (upd H1 acc (.lst []))) (hl:∀i xs H,i<=zs.length->Pv i xs H->SqT K H a zs)
  (hs:∀i z xs H,zs[i]?=some z->Pv i xs H->te (some z::ρ) H fun y H4=>H4 acc=some (.lst xs)/\xs.length<sizeLine/\Pv (i+1) (xs++[y]) (upd H4 acc (.lst (xs++[y]))))
  (hd:∀xs H,Pv zs.length xs H->Z H):CompGo (Itt K a) ρ (jbA 0) jcl te acc Z H1:=by
 refine⟨fun i m xs H=>Pv i xs H/\i<=zs.length/\m=zs.length-i,⟨zs.length,h0,xaG _,rfl⟩,?_⟩;rintro i m xs H ⟨hp,hi,rfl⟩;have sq:=hl i xs H hi hp;by_cases hlt:i<zs.length
 ·refine .inr ⟨⟨zs,zs[i],sq,xab hlt⟩,(fun y H4=>H4 acc=some (.lst xs)/\xs.length<sizeLine/\Pv (i+1) (xs++[y]) (upd H4 acc (.lst (xs++[y])))),fun _=>False,fun y H4 q=>⟨q.1,q.2.1,zs.length-(i+1),by omega,q.2.2,hlt,rfl⟩,fun _ z=>z.elim,?_⟩;rintro v0 x H' ⟨rfl,hx⟩;exact⟨⟨_,rfl⟩,by simp only[jcl,if_true];exact hs i x xs H' (hx zs sq) hp⟩
 ·have:i=zs.length:=by omega
  subst this;exact .inl ⟨⟨zs,sq,xae _⟩,hd xs H hp⟩
theorem ji4 {K:PySem.W.Frag} {a:Addr} {zs:List V} (Pv:Nat->List V->Hp->Prop) (h0:Pv 0 [] (upd H1 acc (.lst []))) (hl:∀i xs H,i<=zs.length->Pv i xs H->SqL K H a zs)
  (hs:∀i z xs H,zs[i]?=some z->Pv i xs H->te (some z::ρ) H fun y H4=>H4 acc=some (.lst xs)/\xs.length<sizeLine/\Pv (i+1) (xs++[y]) (upd H4 acc (.lst (xs++[y]))))
  (hd:∀xs H,Pv zs.length xs H->Z H):CompGo (Itl K a) ρ (jbA 0) jcl te acc Z H1:=by
 refine⟨fun i m xs H=>Pv i xs H/\i<=zs.length/\m=zs.length-i,⟨zs.length,h0,xaG _,rfl⟩,?_⟩;rintro i m xs H ⟨hp,hi,rfl⟩;have sq:=hl i xs H hi hp;by_cases hlt:i<zs.length
 ·refine .inr ⟨⟨zs,zs[i],sq,xab hlt⟩,(fun y H4=>H4 acc=some (.lst xs)/\xs.length<sizeLine/\Pv (i+1) (xs++[y]) (upd H4 acc (.lst (xs++[y])))),fun _=>False,fun y H4 q=>⟨q.1,q.2.1,zs.length-(i+1),by omega,q.2.2,hlt,rfl⟩,fun _ z=>z.elim,?_⟩;rintro v0 x H' ⟨rfl,hx⟩;exact⟨⟨_,rfl⟩,by simp only[jcl,if_true];exact hs i x xs H' (hx zs sq) hp⟩
 ·have:i=zs.length:=by omega
  subst this;exact .inl ⟨⟨zs,sq,xae _⟩,hd xs H hp⟩
end
end L2
namespace L2
open PySem PySem.Spec PyProof.Rows
section
variable {X:Cx}
theorem jdM {k:Int} {n:Nat} (h:k.natAbs<2^n):Builtin.Int.intBits k<=n:=by
 unfold Builtin.Int.intBits;split
 ·exact xaG _
 ·rename_i h0
  have hk:k.natAbs≠0:=by
   intro z;apply h0;have:k=0:=Int.natAbs_eq_zero.mp z;subst this;rfl
  have:k.natAbs.log2<n:=(Nat.log2_lt hk).mpr h;omega
def Fit (i:Int):Prop:=i.natAbs<2^8000
theorem Fit.mul {i j:Int} (hi:Fit i) (hj:Fit j):IntMulOk i j:=by
 have h1:=jdM hi;have h2:=jdM hj;unfold IntMulOk;intro h;have h3:=(xbE.mp h).2;unfold Builtin.Int.intTooBig at h3;have h4:=of_decide_eq_true h3;have h5:(bitsLine:Int)=134217728:=by decide
 omega
theorem jaw:OpR X (binaryOp .Mult) (rI (fun i j=>Fit i/\Fit j) fun i j=>.int (i*j)):=opI fun _ _ _ _ _ _ _ hc q=>mul_int q (hc.1.mul hc.2)
theorem Fit.log {i:Int} (h:Fit i):i.natAbs.log2<9000:=by
 by_cases h0:i.natAbs=0
 ·rw[h0];decide +kernel
 ·have:=(Nat.log2_lt h0).mpr h;omega
theorem jfp:OpR X (binaryOp .FloorDiv) (rI (fun _ j=>0<j/\Fit j) fun i j=>.int (i / j)):=opI fun i j _ _ _ _ _ hc q=>by
 have h1:(0:Int)<j:=hc.1;exact floordiv_int (by omega) (by rw[Int.fdiv_eq_ediv_of_nonneg i (by omega)];exact q) (.inl (PyProof.noPylong_of_log2 hc.2.log))
theorem Fit.of {i:Int} {n:Nat} (h:i.natAbs<2^n) (hn:n<=8000:=by decide):Fit i:=xao h (xbs (by decide) hn)
theorem ja7:CallR X (.builtin "isinstance") (fun xs H Q=>∃x c t b,xs=[x,.ty c]/\TyOf X.K H x t/\PySem.W.kitOne X.K t (.type c)=some b/\Q (.bl b) H):=by
 intro pins s σ H xs us Q I r h;obtain⟨x,c,t,b,rfl,ty,e,q⟩:=h;obtain⟨u,w',rfl,r1,r2⟩:=jm2 r;cases r2;exact jiR I r1 ty e fun tk=>⟨.bl b,H,I.tok tk,rfl,q⟩
mutual
inductive Rds (K:PySem.W.Frag) (H:Hp):V->PyData->Prop
 | non:Rds K H .non .none
 | bl (b:Bool):Rds K H (.bl b) (.bool b)
 | int (i:Int):Rds K H (.int i) (.int i)
 | str (x:Str):Rds K H (.str x) (.str x)
 | lst {a:Addr} {xs:List V} {ds:List PyData} (h:SqL K H a xs) (t:RdsAll K H xs ds):Rds K H (.ref a) (.list ds)
 | tup {a:Addr} {xs:List V} {ds:List PyData} (h:SqT K H a xs) (t:RdsAll K H xs ds):Rds K H (.ref a) (.tuple ds)
inductive RdsAll (K:PySem.W.Frag) (H:Hp):List V->List PyData->Prop
 | nil:RdsAll K H [] []
 | cons {v:V} {vs:List V} {d:PyData} {ds:List PyData} (h:Rds K H v d) (t:RdsAll K H vs ds):RdsAll K H (v::vs) (d::ds)
end
mutual
theorem Rds.reads {pins:List (Addr × Obj)} {σ:St} {H:Hp} {s:Shared} (I:Inv X pins σ H s):∀{x:V} {d:PyData} {u:Value},Rds X.K H x d->RelV x u->∃as,Reads s.heap u d as
  | _,_,_,.non,r=>by cases r;exact⟨_,.none⟩
  | _,_,_,.bl b,r=>by cases r;exact⟨_,.bool b⟩
  | _,_,_,.int i,r=>by obtain⟨t,rfl⟩:=r;exact⟨_,.int i t⟩
  | _,_,_,.str x,r=>by obtain⟨t,rfl⟩:=r;exact⟨_,.str x t⟩
  | _, _, _, .lst h t, r => by
    cases r;obtain⟨its,rv,pl,_⟩:=I.list h;obtain⟨o,ho,hc,n,hd⟩:=pl.isList;obtain⟨as,q⟩:=RdsAll.reads I t rv;exact⟨_,.list ho hc hd q⟩
  | _, _, _, .tup h t, r => by
    cases r;obtain⟨its,rv,pl,_⟩:=I.tuple h;obtain⟨o,ho,hc,n,hd⟩:=pl;obtain⟨as,q⟩:=RdsAll.reads I t rv;exact⟨_,.tuple ho hc hd q⟩
theorem RdsAll.reads {pins:List (Addr × Obj)} {σ:St} {H:Hp} {s:Shared} (I:Inv X pins σ H s):∀{xs:List V} {ds:List PyData} {us:List Value},RdsAll X.K H xs ds->Vals xs us->∃as,ReadsAll s.heap us ds as
  | _,_,_,.nil,r=>by cases r;exact⟨_,.nil⟩
  | _, _, _, .cons h t, r => by
    cases r with
    | cons r1 r2 =>
      obtain⟨as,q1⟩:=Rds.reads I h r1;obtain⟨bs,q2⟩:=RdsAll.reads I t r2;exact⟨_,.cons q1 q2⟩
end
theorem RdsAll.ints {K:PySem.W.Frag} {H:Hp}:∀ns:List Int,RdsAll K H (ns.map V.int) (ns.map PyData.int)
 | []=>.nil
 | n::r=>.cons (.int n) (RdsAll.ints r)
def ji5 (K:PySem.W.Frag) (neg:Bool):R2:=fun x y H Q=>∃dx dy,Rds K H x dx/\Rds K H y dy/\SeqAt.shaped dx=true/\SeqAt.shaped dy=true/\Q (.bl (if neg then !PyData.eqv dx dy else PyData.eqv dx dy)) H
theorem jf8 (hu:X.A.units+64<cLine):OpR X (compareOp .Eq) (ji5 X.K false):=by
 intro pins s σ H x y v u Q I rx ry ⟨dx,dy,hx,hy,sx,sy,q⟩;obtain⟨as,ra⟩:=hx.reads I rx;obtain⟨bs,rb⟩:=hy.reads I ry;exact eq_dataH ra rb sx sy hu ⟨.bl _,H,I,rfl,q⟩
theorem jcD (hu:X.A.units+64<cLine):OpR X (compareOp .NotEq) (ji5 X.K true):=by
 intro pins s σ H x y v u Q I rx ry ⟨dx,dy,hx,hy,sx,sy,q⟩;obtain⟨as,ra⟩:=hx.reads I rx;obtain⟨bs,rb⟩:=hy.reads I ry;exact ne_dataH ra rb sx sy hu ⟨.bl _,H,I,rfl,q⟩
theorem ja2 (hc:X.calm=true):CallR X (.builtin "all") (fun xs H Q=>∃(a:Addr) (bs:List Bool),xs=[.ref a]/\SqL X.K H a (bs.map V.bl)/\Q (.bl (bs.all id)) H):=by
  intro pins s σ H xs us Q I r h;obtain⟨a,bs,rfl,hq,q⟩:=h;obtain⟨u,rfl,rx⟩:=jdK r;cases rx;obtain⟨its,rv,pl,hz⟩:=I.list hq;have hl:=pl.isList;have hlt:a<s.heap.objs.size:=by obtain⟨_,e,_⟩:=hl;exact Heap.lt_size e
  refine call_all_walk (wpAny_pyIter_list hl ?_);refine⟨_,[s.heap.objs.size,a],[s.heap.objs.size],_,_,_,fun i=>(bs[i]?).getD true,rfl,Walks.list (A:=X.A.in1) (I.ok.hd hc) _ a (xan hlt) its.toArray,⟨⟨_,Heap.get?_push_size _ rfl,rfl,rfl⟩,hl.push _⟩,?_,?_⟩
  . intro i v s' Q' E' hP hQ
    have hP':its[i]?=some v:=by simpa using hP
    have hb:∃b,bs[i]?=some b/\v=Value.bool b:=by
      cases e:bs[i]? with
      | none =>
        have l1:its.length=(bs.map V.bl).length:=rv.length.symm;rw[xaa] at l1;have l2:=List.getElem?_eq_none_iff.mp e;have l3:=(xag.mp hP').1;omega
      | some b =>
        obtain⟨u,e1,e2⟩:=rv.get (i:=i) (x:=V.bl b) (by rw[xaf,e];rfl);rw[e1] at hP';cases hP';exact⟨b,rfl,e2⟩
    obtain⟨b,eb,rfl⟩:=hb;have hQ2:Q' ((bs[i]?).getD true) s':=hQ;rw[eb] at hQ2;exact wpAny_truthy_bool hQ2
  . intro h' tk hk
    have kp:∀b o,s.heap.get? b=some o->h'.get? b=some o:=fun b o e=>hk b o (fun hm=>by
      rcases xap.mp hm with e1 | hm
      . exact absurd (e1▸Heap.lt_size e) (xbh _)
      . cases hm) (Heap.get?_push_of_some _ e)
    refine⟨.bl _,H,I.kept kp,rfl,?_⟩;have l1:its.length=bs.length:=by rw[<- rv.length,xaa]
    have ea:(List.range its.toArray.size).all (fun i=>(bs[i]?).getD true)=bs.all id:=by
      rw[xai,l1,xb2,xbr,xbr];constructor
      . intro h b hb
        obtain⟨i,hi,e⟩:=xbF.mp hb;have z:=h i (xaY.mpr hi);rw[xab hi,e] at z;exact z
      . intro h i hi
        have hi':=xaY.mp hi;rw[xab hi'];exact h _ (xa2 hi')
    rw[ea];exact q
end
end L2
namespace L2
open PySem PySem.Spec PyProof.Rows
def DictAt (e dx:Addr) (h:Heap):Prop:=∃o,h.get? e=some o/\o.dict=some dx
theorem DictAt.push {e dx:Addr} {h:Heap} {o:Obj} (z:DictAt e dx h):DictAt e dx (h.push o):=by
 obtain⟨x,h1,h2⟩:=z;exact⟨x,Heap.get?_push_of_some _ h1,h2⟩
theorem DictAt.update {e dx a:Addr} {h:Heap} {f:Obj->Obj} (hd:∀o,(f o).dict=o.dict) (hf:∀o,o.isFreed=false->(f o).isFreed=false) (z:DictAt e dx h):DictAt e dx (h.update a f):=by
 obtain⟨x,h1,h2⟩:=z;by_cases c:a=e
 ·subst c;exact⟨f x,Heap.get?_update_self f h1 (hf x (Heap.get?_some_iff.mp h1).2),(hd x).trans h2⟩
 ·exact⟨x,(Heap.get?_update_other _ _ c).trans h1,h2⟩
def XOk (P:Program) (w:World):CXT:=fun outer H s E e s'=>∃(ea C:Addr) (a0:Value) (H':Hp) (B:Heap) (pd:Option Addr),e=.ref ea/\Heap.FlyingW B outer ea (.ref C) a0 s'.heap/\s'.os=s.os/\AllBare s'.gens /\
 Un (frs outer) [] H H' s.heap s'.heap/\HOk P w H' B/\(∀b o,s.heap.get? b=some o->H b=none->b∉frs outer->B.get? b=some o)/\(∀b o,s.heap.get? b=some o->b∉frs outer->∃o',B.get? b=some o')/\(∀dx,pd=some dx->DictAt ea dx s'.heap)/\E (.ref C) pd H'
section
variable {X:Cx} {pins:List (Addr × Obj)} {σ:St} {H:Hp} {s:Shared}
def XP (X:Cx) (pins:List (Addr × Obj)) (σ:St) (E:XK) (ex:Value) (s':Shared):Prop:=∃H1 s1,Inv X pins σ H1 s1/\XOk X.prog X.w X.stack H1 s1 E ex s'
end
section
variable {P:Program} {w:World} {K:PySem.W.Frag} {mg:Str->Option Value} {base:Heap}
structure FunD (K:PySem.W.Frag) (x qual:Str) (st:Stmt) (f:Addr) (fd:FuncData) (dV:Value):Prop where
 ex:∃(oc:Value) (od:Option Addr) (kV doc pm:Value) (an:Option Addr) (cdv ct:Value) (osl:Array (Option Value)),
  fd=PySem.W.fnOf x qual (jbC st) (jbc st) (jad st) dV kV doc pm an cdv ct/\K.lookup f=some ⟨oc,od,.func fd,osl⟩/\PySem.W.codeIn K cdv qual=true
 kp:PySem.W.keepIn K (.ref f)=true
theorem FunD.ok {x qual:Str} {st:Stmt} {f:Addr} {fd:FuncData} {dV:Value} {N ps:List Str} {k:Nat} {sp:Sp} (F:FunD K x qual st f fd dV) (S:FnScope N ps (jad st)) (len:∀vs H Q E,sp vs H Q E->vs.length=ps.length)
  (hbody:∀(cdv:Value) (A:Around) (outer:List Env) (s:Shared) (H:Hp) (vs:List V) (Q:VK) (E:XK),Room k (A.deeper (envOfC qual (jad st) s.heap.objs.size f cdv))->sp vs H Q E ->
   ∃t,PSs (jix CX0 P w K mg base N qual (jad st) f cdv A outer s H E).nox (jbc st) t/\t { nx:=fun _ H'=>Q .non H',rt:=Q } (jdv N vs) H):FnOk P w K mg base CX0 (k+1) f fd ps sp:=by
 obtain⟨oc,od,kV,doc,pm,an,cdv,ct,osl,rfl,lk,hcd⟩:=F.ex;refine fn_of lk hcd S len fun A outer s H vs Q E hr hsp=>?_;obtain⟨t,h,q⟩:=hbody cdv A outer s H vs Q E hr hsp;exact⟨t,h.nox,q⟩
theorem jgI {x qual:Str} {st:Stmt} {f:Addr} {oc dV:Value} {od an:Option Addr} {osl:Array (Option Value)} {kV doc pm cdv ct:Value} (l:K.lookup f=some ⟨oc,od,.func (PySem.W.fnOf x qual (jbC st) (jbc st) (jad st) dV kV doc pm an cdv ct),osl⟩)
  (c:PySem.W.codeIn K cdv qual=true) (k:PySem.W.keepIn K (.ref f)=true):FunD K x qual st f (PySem.W.fnOf x qual (jbC st) (jbc st) (jad st) dV kV doc pm an cdv ct) dV:=⟨⟨oc,od,kV,doc,pm,an,cdv,ct,osl,rfl,l,c⟩,k⟩
end
def At (K:PySem.W.Frag) (mg:Str->Option Value) (x:Str) (st:Stmt) (ps:List Str) (dvs:List V):Prop :=
 ∃f fd dV ds,FunD K x x st f fd dV/\mg x=some (.ref f)/\Binds K fd ps ds/\Vals dvs ds
def jal (P:Program) (w:World) (K:PySem.W.Frag) (mg:Str->Option Value) (base:Heap) (CX:CXT) (k:Nat) (x:Str) (ps:List Str) (dvs:List V) (sp:Sp):Prop :=
 ∃f fd ds,FnOk P w K mg base CX k f fd ps sp/\mg x=some (.ref f)/\PySem.W.keepIn K (.ref f)=true/\Binds K fd ps ds/\Vals dvs ds
section
variable {P:Program} {w:World} {K:PySem.W.Frag} {mg:Str->Option Value} {base:Heap}
theorem At.ok {x:Str} {st:Stmt} {N ps:List Str} {dvs:List V} {k:Nat} {sp:Sp} (F:At K mg x st ps dvs) (S:FnScope N ps (jad st)) (len:∀vs H Q E,sp vs H Q E->vs.length=ps.length)
  (hbody:∀(f:Addr) (cdv:Value) (A:Around) (outer:List Env) (s:Shared) (H:Hp) (vs:List V) (Q:VK) (E:XK),Room k (A.deeper (envOfC x (jad st) s.heap.objs.size f cdv))->sp vs H Q E ->
   ∃t,PSs (jix CX0 P w K mg base N x (jad st) f cdv A outer s H E).nox (jbc st) t/\t { nx:=fun _ H'=>Q .non H',rt:=Q } (jdv N vs) H):jal P w K mg base CX0 (k+1) x ps dvs sp:=by
 obtain⟨f,fd,dV,ds,F1,hm,hb,hd⟩:=F;exact⟨f,fd,ds,F1.ok S len (hbody f),hm,F1.kp,hb,hd⟩
end
section
variable {X:Cx} {CX:CXT} {k:Nat} {ps:List Str} {sp:Sp} {dvs:List V} {E:XK} {x:Str} {p pos:Pos} {e:Expr} {es:List Expr} {t:TA}
theorem jah (D:jal X.prog X.w X.K X.mg X.base CX k x ps dvs sp) (hr:Room k X.A) (hg:Gl X x) (hx:jg5 CX X E) (ha:PA X (e::es) t) (hdb:(x==("__debug__":Str))=false:=by decide)
  (he:starEach (e::es) X.env=(false,eval e X.env)::starEach es X.env:=by rfl) (hpl:(backTo pos (starEach es X.env)).any (·.1)=false:=by rfl):PE X (.Call (.Name x p) (e::es) [] pos) (jh3 sp dvs E t):=by
 obtain⟨f,fd,ds,F,hm,hk,hb,hd⟩:=D;exact jm5 F hr hg hm hk hb hd hx ha hdb he hpl
theorem ix_lt:IxR X (fun x y H Q=>jos X.K x y H Q\/jeZ X.K x y H Q):=ix_list.or jao
theorem jm7:MtR X "int.bit_length" (fun x xs H Q=>∃i,x=.int i/\xs=[]/\Q (.int (Builtin.Int.intBits i:Nat)) H):=by
 intro pins s σ H x xs v us Q I rx rv h;obtain⟨i,rfl,rfl,q⟩:=h;obtain⟨t,rfl⟩:=rx;cases rv;refine wpAny_call (codeAny_call_builtin F.slot_int_bit_length.plain F.entry_int_bit_length (F.slot_int_bit_length.check _ _ _ _ _ _ _ _ (typeIs_int s i t) (F.args_int_bit_length_1 _) (AutoIntG2.int_bit_length_int_0 i t _ _ _ (wants _ _) s ?_)));exact⟨.int _,H,I.tok _,⟨_,rfl⟩,q⟩
end
theorem jgA {k:Nat} {A:Around} (hr:Room k A):A.units+64<cLine:=hr.units
theorem Same.tup {K:PySem.W.Frag} {H H':Hp} {a:Addr} {xs:List V} (e:Same H H') (h:SqT K H a xs):SqT K H' a xs:=by
 rcases h with (h | ⟨o,h⟩) | h
 ·exact .inl (.inl (e _ _ h))
 ·exact .inl (.inr ⟨o,e _ _ h⟩)
 ·exact .inr h
theorem Same.new {H:Hp} {p:Addr} (h:H p=none) (o:HO):Same H (upd H p o):=fun b u q=>by rw[jaC (jax q h)];exact q
theorem at_mk {K:PySem.W.Frag} {h:Heap} {mg:Str->Option Value} {x:Str} {st:Stmt} {ps:List Str} {f:Addr} {oc kV doc pm cdv ct:Value} {od an:Option Addr} {osl:Array (Option Value)} (X:K.In h) (G:h.Ns mainGlobals mg)
  (hb:∀(kV doc pm:Value) (an:Option Addr) (cdv ct:Value) (us:List Value),us.length=ps.length->bindArgs (PySem.W.fnOf x x (jbC st) (jbc st) (jad st) .none kV doc pm an cdv ct) ⟨us,[]⟩=pure (ps.zip us))
  (a:PySem.W.nsIn K mainGlobals x=some (some (.ref f))) (l:K.lookup f=some ⟨oc,od,.func (PySem.W.fnOf x x (jbC st) (jbc st) (jad st) .none kV doc pm an cdv ct),osl⟩) (c:PySem.W.codeIn K cdv x=true) (k:PySem.W.keepIn K (.ref f)=true) :
  At K mg x st ps []:=⟨f,_,.none,[],jgI l c k,PySem.W.mg_of X G a,.all (hb kV doc pm an cdv ct),.nil⟩
theorem jg7 {K:PySem.W.Frag} {h:Heap} {mg:Str->Option Value} {x:Str} {st:Stmt} {ps:List Str} {f D:Addr} {oc kV doc pm cdv ct:Value} {od an:Option Addr} {osl:Array (Option Value)} {oD:Obj} {items:Array Value} {n:Nat} {dvs:List V} {ds:List Value} (X:K.In h) (G:h.Ns mainGlobals mg)
  (hb:∀(kV doc pm:Value) (an:Option Addr) (cdv ct:Value) (us:List Value),(us++ds).length=ps.length->∃kk,bindArgs (PySem.W.fnOf x x (jbC st) (jbc st) (jad st) (.ref D) kV doc pm an cdv ct) ⟨us,[]⟩=(seqItems? (.ref D) >>= kk)/\kk (some items)=pure (ps.zip (us++ds)))
  (a:PySem.W.nsIn K mainGlobals x=some (some (.ref f))) (l:K.lookup f=some ⟨oc,od,.func (PySem.W.fnOf x x (jbC st) (jbc st) (jad st) (.ref D) kV doc pm an cdv ct),osl⟩) (c:PySem.W.codeIn K cdv x=true) (k:PySem.W.keepIn K (.ref f)=true)
  (lD:K.lookup D=some oD) (hD:oD.data=.seq items n) (hv:Vals dvs ds):At K mg x st ps dvs :=
 ⟨f,_,.ref D,ds,jgI l c k,PySem.W.mg_of X G a,fun s us KX hl=>by
  obtain⟨kk,h1,h2⟩:=hb kV doc pm an cdv ct us hl;exact BindsTo.of_defaults rfl (KX _ _ lD) hD h1 h2,hv⟩
section
variable {X:Cx} {st:Stmt} {jbP:List Stmt} {t u:TS}
def Rest (M:St->Hp->Prop) (u:TS) (D:Ends):Prop:=∀σ' H',M σ' H'->u D σ' H'
def jot (M:St->Hp->Prop) (t u:TS):TS:=fun D σ H=>t { D with nx:=M } σ H/\Rest M u D
theorem ja3 (M:St->Hp->Prop) (h1:PS X st t) (h2:PSs X jbP u):PSs X (st::jbP) (jot M t u):=by
  intro pins s σ H D I h;refine wpAny_execs_cons (thn (h1 pins s σ H { D with nx:=M } I h.1) fun f s1 q=>?_);cases f with
  | next =>
    obtain⟨σ',H',I',q⟩:=q;exact h2 pins s1 σ' H' D I' (h.2 σ' H' q)
  | ret v=>exact q
  | brk=>exact q
  | cont=>exact q
end
def Bd (n:Nat) (i:Int):Prop:=i.natAbs<2^n
theorem Bd.mul {n m:Nat} {i j:Int} (hi:Bd n i) (hj:Bd m j):Bd (n+m) (i*j):=by
 unfold Bd at *
 rw[xcy,Nat.pow_add];exact Nat.mul_lt_mul_of_lt_of_le hi (xa1 hj) (Nat.two_pow_pos m)
theorem Bd.mono {n m:Nat} {i:Int} (hi:Bd n i) (h:n<=m:=by decide):Bd m i:=xao hi (xbs (by decide) h)
theorem Bd.add {n:Nat} {i j:Int} (hi:Bd n i) (hj:Bd n j):Bd (n+1) (i+j):=by
 unfold Bd at *
 rw[Nat.pow_succ];have:=Int.natAbs_add_le i j;omega
theorem Bd.sub {n:Nat} {i j:Int} (hi:Bd n i) (hj:Bd n j):Bd (n+1) (i-j):=by
 unfold Bd at *
 rw[Nat.pow_succ];have:=Int.natAbs_sub_le i j;omega
theorem Bd.neg {n:Nat} {i:Int} (hi:Bd n i):Bd n (-i):=by unfold Bd at *;rw[xcz];exact hi
theorem Bd.fit {n:Nat} {i:Int} (hi:Bd n i) (h:n<=8000:=by decide):Fit i:=xao hi (xbs (by decide) h)
theorem Bd.of {i:Int} (h1:-1606938044258990275541962092341162602522202993782792835301376<i) (h2:i<1606938044258990275541962092341162602522202993782792835301376):Bd 200 i:=by
 unfold Bd;have e:(2^200:Nat)=1606938044258990275541962092341162602522202993782792835301376:=by decide
 rw[e];omega
theorem Fit.o {i:Int} (h1:-1606938044258990275541962092341162602522202993782792835301376<i) (h2:i<1606938044258990275541962092341162602522202993782792835301376):Fit i:=(Bd.of h1 h2).fit
def gk {α:Type} (n m:Nat) (us ws:List α):List α:=if us.length=n/\ws.length=m then us++ws else []
def AtK (K:PySem.W.Frag) (mg:Str->Option Value) (x:Str) (st:Stmt) (ps ks:List Str) (n m:Nat):Prop :=
 ∃f fd dV,FunD K x x st f fd dV/\mg x=some (.ref f)/\KBinds K fd ps ks (gk n m) (gk n m)
theorem jaY {X:Cx} {K:PySem.W.Frag} (h:X.K=K):IxR X (jeZ K):=h▸jao
theorem jg8 {X:Cx} {K:PySem.W.Frag} (h:X.K=K):IxR X (jos K):=h▸ix_list
theorem jeq {X:Cx} (hc:X.calm=true):CallR X (.builtin "max") (fun xs H Q=>∃(a:Addr) (ns:List Int),xs=[.ref a]/\SqL X.K H a (ns.map V.int)/\ns≠[]/\∀m:Int,m∈ns->(∀n∈ns,n<=m)->Q (.int m) H):=by
 intro pins s σ H xs us Q I r h;obtain⟨a,ns,rfl,hq,hne,q⟩:=h;obtain⟨u,rfl,rx⟩:=jdK r;cases rx;obtain⟨its,rv,pl,hz⟩:=I.list hq;have ha:=jc1 rv;have hall:AllInts its.toArray:=ha.allInts;have hn:numsOf its=ns:=ha.numsOf;obtain⟨ps,e⟩:=hall.items;have hl:s.heap.IsList a (intItems ps):=by rw[<- e];exact pl.isList
 have en:ns=ps.toList.map (·.1):=by
  have z:=nums_intItems ps;rw[<- e] at z;rw[<- hn];exact z
 have hlen:ns.length=ps.size:=by rw[en,xaa,Array.length_toList]
 have hpos:0<ps.size:=by
  rw[<- hlen];exact List.length_pos_iff.mpr hne
 refine max_intList (I.ok.hd hc) hl hpos fun v h' tk hv hk=>?_;obtain⟨t,rfl⟩:=intItems_at hv;obtain⟨b1,b2⟩:=argBest_gt (numAt ps) (ps.size-1);have pick:∀i,i<ps.size->numAt ps i∈ns:=fun i hi=>by
  rw[en];refine xax.mpr ⟨ps[i],by simp,?_⟩;simp [numAt,hi]
 refine⟨.int _,H,I.kept hk,⟨_,rfl⟩,q _ (pick _ (by omega)) fun n hm=>?_⟩;rw[en] at hm;obtain⟨p,hp,rfl⟩:=xax.mp hm;obtain⟨i,hi,rfl⟩:=Array.mem_iff_getElem.mp (Array.mem_toList_iff.mp hp);have z:=b2 i (by omega);have ei:numAt ps i=ps[i].1:=by simp [numAt,hi]
 rw[ei] at z;exact z
end L2
namespace L2
open PySem
theorem ixT {K:PySem.W.Frag} {H:Hp} {r:Addr} {xs:List V} {i:Int} {v:V} {Q:VK} (k:SqT K H r xs) (e:atI xs i=some v) (q:Q v H):jeZ K (.ref r) (.int i) H Q:=⟨r,xs,i,v,rfl,rfl,k,e,q⟩
theorem ixL {K:PySem.W.Frag} {H:Hp} {r:Addr} {xs:List V} {i:Int} {v:V} {Q:VK} (k:SqL K H r xs) (e:atI xs i=some v) (q:Q v H):jos K (.ref r) (.int i) H Q:=⟨r,xs,i,v,rfl,rfl,k,e,q⟩
def jou (J:It) (g:TG) (tb:TS) (D:Ends) (σ:St) (H1:Hp):Prop:=∃W:Nat->Nat->St->Hp->Prop,(∃m,W 0 m σ H1)/\∀i m σ H,W i m σ H ->
 (J.stop i H/\D.nx σ H)\/(J.go i H/\∃N:St->Hp->Prop,(∀σ' H',N σ' H'->∃m',m'<m/\W (i+1) m' σ' H')/\∀x H',J.yld i H x H'->g x σ H' fun σ2 H2=>tb { D with nx:=N,ct:=N,bk:=D.nx } σ2 H2)
section
variable {K:PySem.W.Frag} {ta:TA} {tl:TE} {g:TG} {tb:TS} {D:Ends} {σ:St} {H:Hp} {ix:List Nat} {tt:TT} {te:TE} {Q:VK}
theorem ji6:jm0 (jmY ta) g tb D σ H=ta σ H fun vs H1=>∃j:Int,vs=[.int j]/\-(2^62)<=j/\j<2^62/\jou (Itr 0 j.toNat) g tb D σ H1:=rfl
theorem ji7:jm0 (jmZ ta) g tb D σ H=ta σ H fun vs H1=>∃i j:Int,vs=[.int i,.int j]/\(-(2^62)<=i/\i<2^62/\-(2^62)<=j/\j<2^62)/\jou (Itr i (j-i).toNat) g tb D σ H1:=rfl
theorem jl8:jm0 (jkP K tl) g tb D σ H=tl σ H fun x H1=>∃a,x=.ref a/\(∃xs,SqL K H1 a xs)/\jou (Itl K a) g tb D σ H1:=rfl
theorem jl9:jm0 (iTup K tl) g tb D σ H=tl σ H fun x H1=>∃a,x=.ref a/\(∃xs,SqT K H1 a xs)/\jou (Itt K a) g tb D σ H1:=rfl
theorem jg9:jf7 (jmY ta) ix g tt te σ H Q=ta σ H fun vs H1=>∃j:Int,vs=[.int j]/\-(2^62)<=j/\j<2^62/\∀acc,H1 acc=none->CompGo (Itr 0 j.toNat) (jaD σ ix) g tt te acc (fun H'=>Q (.ref acc) H') H1:=rfl
theorem jha:jf7 (jmZ ta) ix g tt te σ H Q=ta σ H fun vs H1=>∃i j:Int,vs=[.int i,.int j]/\(-(2^62)<=i/\i<2^62/\-(2^62)<=j/\j<2^62)/\∀acc,H1 acc=none->CompGo (Itr i (j-i).toNat) (jaD σ ix) g tt te acc (fun H'=>Q (.ref acc) H') H1:=rfl
theorem ji8:jf7 (jkP K tl) ix g tt te σ H Q=tl σ H fun x H1=>∃a,x=.ref a/\(∃xs,SqL K H1 a xs)/\∀acc,H1 acc=none->CompGo (Itl K a) (jaD σ ix) g tt te acc (fun H'=>Q (.ref acc) H') H1:=rfl
theorem ji9:jf7 (iTup K tl) ix g tt te σ H Q=tl σ H fun x H1=>∃a,x=.ref a/\(∃xs,SqT K H1 a xs)/\∀acc,H1 acc=none->CompGo (Itt K a) (jaD σ ix) g tt te acc (fun H'=>Q (.ref acc) H') H1:=rfl
theorem FoR.lst {P:Prop} {a:Addr} {xs:List V} (k:SqL K H a xs) (h:P):(∃xs,SqL K H a xs)/\P:=⟨⟨xs,k⟩,h⟩
theorem FoR.tup {P:Prop} {a:Addr} {xs:List V} (k:SqT K H a xs) (h:P):(∃xs,SqT K H a xs)/\P:=⟨⟨xs,k⟩,h⟩
theorem FoR.len {P:List V->Prop} {a:Addr} {xs:List V} (k:SqL K H a xs) (h:P xs):∃x,(SqL K H a x\/SqT K H a x)/\P x:=⟨xs,.inl k,h⟩
theorem FoR.lenT {P:List V->Prop} {a:Addr} {xs:List V} (k:SqT K H a xs) (h:P xs):∃x,(SqL K H a x\/SqT K H a x)/\P x:=⟨xs,.inr k,h⟩
end
end L2
namespace L2
open PySem PySem.Spec PyProof.Rows
theorem Same.keepN {H H':Hp} {p:Addr} (h:Same H H') (n:H p=none) (o:HO):Same H (upd H' p o):=fun b u q=>by rw[jaC (jax q n)];exact h b u q
theorem Same.noneN {H H':Hp} {p:Addr} (h:Same H H') (n:H' p=none):H p=none:=by
  cases e:H p with
  | none=>rfl
  | some o =>
    have z:=h _ _ e;rw[n] at z;cases z
theorem jaF {n:Nat} (h:n<1000):n<sizeLine:=xao h (by decide)
section
variable {ρ:St} {te:TE} {tt:TT} {acc:Addr} {Z:Hp->Prop} {H1:Hp}
theorem jh8 {lo:Int} {n:Nat} (f:Nat->V) (hn:n<1000) (hacc:H1 acc=none)
  (hs:∀(i:Nat) (H3:Hp) (R:V->Hp->Prop),i<n->Same H1 H3->(∀H4,Same H3 H4->R (f i) H4)->te (some (.int (lo+i))::ρ) H3 R)
  (hd:∀H',Same H1 H'->H' acc=some (.lst ((List.range n).map f))->Z H'):CompGo (Itr lo n) ρ (jbA 0) jcl te acc Z H1:=by
 refine jc3 (fun i xs H=>Same H1 H/\H acc=some (.lst xs)/\xs=(List.range i).map f) ⟨Same.new hacc _,jaf,rfl⟩ ?_ ?_
 ·rintro i xs H hi ⟨g1,g2,rfl⟩;refine hs i H _ hi g1 fun H4 s4=>⟨s4 _ _ g2,jaF ?_,Same.keepN (g1.trans s4) hacc _,jaf,?_⟩
  ·rw[xaa,xaV];omega
  ·rw[xaM,xaj];rfl
 ·rintro xs H ⟨g1,g2,rfl⟩;exact hd H g1 g2
theorem jm8 {lo:Int} {n:Nat} (f:Nat->V) (c:Nat->Bool) (hn:n<1000) (hacc:H1 acc=none)
  (ht:∀(i:Nat) (H3:Hp) (R:Bool->Hp->Prop),i<n->Same H1 H3->(∀H4,Same H3 H4->R (c i) H4)->tt (some (.int (lo+i))::ρ) H3 R)
  (hs:∀(i:Nat) (H3:Hp) (R:V->Hp->Prop),i<n->c i=true->Same H1 H3->(∀H4,Same H3 H4->R (f i) H4)->te (some (.int (lo+i))::ρ) H3 R)
  (hd:∀H',Same H1 H'->H' acc=some (.lst (((List.range n).filter c).map f))->Z H'):CompGo (Itr lo n) ρ (jbA 0) tt te acc Z H1:=by
 refine⟨fun i m xs H=>(Same H1 H/\H acc=some (.lst xs)/\xs=((List.range i).filter c).map f)/\i<=n/\m=n-i,⟨n,⟨Same.new hacc _,jaf,rfl⟩,xaG _,rfl⟩,?_⟩;rintro i m xs H ⟨⟨g1,g2,rfl⟩,hi,rfl⟩;have hl:(((List.range i).filter c).map f).length<sizeLine:=jaF (by
  rw[xaa];have:=xbQ c (List.range i);rw[xaV] at this;omega)
 by_cases hlt:i<n
 ·refine .inr ⟨hlt,(fun y H4=>y=f i/\c i=true/\Same H1 H4/\H4 acc=some (.lst (((List.range i).filter c).map f))),fun H3=>c i=false/\Same H1 H3/\H3 acc=some (.lst (((List.range i).filter c).map f)),?_,?_,?_⟩
  ·rintro y H4 ⟨rfl,ci,s4,a4⟩;refine⟨a4,hl,n-(i+1),by omega,⟨Same.keepN s4 hacc _,jaf,?_⟩,hlt,rfl⟩;rw[xaM,xaB,xaj,xaX,if_pos ci];rfl
  ·rintro H3 ⟨ci,s3,a3⟩;refine⟨n-(i+1),by omega,⟨s3,a3,?_⟩,hlt,rfl⟩;rw[xaM,xaB,xaj,xaX,if_neg (by rw[ci];decide)];simp
  ·rintro v0 x H' ⟨rfl,rfl⟩;refine⟨⟨_,rfl⟩,ht i H' _ hlt g1 fun H4 s4=>?_⟩;cases ci:c i with
   | true=>exact if_pos rfl▸hs i H4 _ hlt ci (g1.trans s4) fun H5 s5=>⟨rfl,rfl,g1.trans (s4.trans s5),s5 _ _ (s4 _ _ g2)⟩
   | false=>exact⟨rfl,g1.trans s4,s4 _ _ g2⟩
 ·have:i=n:=by omega
  subst this;exact .inl ⟨xae _,hd H g1 g2⟩
theorem joS {lo:Int} {n:Nat} (p:Nat->V->Prop) (hn:n<1000) (hacc:H1 acc=none)
  (hs:∀(i:Nat) (H3:Hp) (R:V->Hp->Prop),i<n->Same H1 H3->(∀y H4,Same H3 H4->p i y->R y H4)->te (some (.int (lo+i))::ρ) H3 R)
  (hd:∀ys H',Same H1 H'->H' acc=some (.lst ys)->ys.length=n->(∀i y,ys[i]?=some y->p i y)->Z H'):CompGo (Itr lo n) ρ (jbA 0) jcl te acc Z H1:=by
 refine jc3 (fun i xs H=>Same H1 H/\H acc=some (.lst xs)/\xs.length=i/\∀j y,xs[j]?=some y->p j y) ⟨Same.new hacc _,jaf,rfl,fun j y h=>by simp at h⟩ ?_ ?_
 ·rintro i xs H hi ⟨g1,g2,hl,hp⟩;refine hs i H _ hi g1 fun y H4 s4 py=>⟨s4 _ _ g2,jaF (by omega),Same.keepN (g1.trans s4) hacc _,jaf,?_,fun j z hz=>?_⟩
  ·rw[xad,hl];rfl
  ·by_cases cj:j<xs.length
   ·rw[xaH cj] at hz;exact hp j z hz
   ·have cj2:j<(xs++[y]).length:=(xag.mp hz).1;rw[xad] at cj2;have e:j=i:=by
     have:j<xs.length+1:=cj2;omega
    subst e;rw[xat (by omega),hl,xcq] at hz;cases hz;exact py
 ·rintro xs H ⟨g1,g2,hl,hp⟩;exact hd xs H g1 g2 hl hp
theorem jja {K:PySem.W.Frag} {a:Addr} {zs:List V} (f:V->V) (hn:zs.length<1000) (hacc:H1 acc=none) (hz:SqT K H1 a zs)
  (hs:∀(z:V) (H3:Hp) (R:V->Hp->Prop),z∈zs->Same H1 H3->(∀H4,Same H3 H4->R (f z) H4)->te (some z::ρ) H3 R)
  (hd:∀H',Same H1 H'->H' acc=some (.lst (zs.map f))->Z H'):CompGo (Itt K a) ρ (jbA 0) jcl te acc Z H1:=by
 refine jfo (zs:=zs) (fun i xs H=>Same H1 H/\H acc=some (.lst xs)/\xs=(zs.take i).map f) ⟨Same.new hacc _,jaf,rfl⟩ (fun i xs H _ h=>h.1.tup hz) ?_ ?_
 ·rintro i z xs H hi ⟨g1,g2,rfl⟩;refine hs z H _ (xav hi) g1 fun H4 s4=>⟨s4 _ _ g2,jaF ?_,Same.keepN (g1.trans s4) hacc _,jaf,?_⟩
  ·rw[xaa,xau];omega
  ·rw[xaZ,hi,xaj];rfl
 ·rintro xs H ⟨g1,g2,rfl⟩;rw[xa3] at g2;exact hd H g1 g2
theorem compL {K:PySem.W.Frag} {a:Addr} {zs:List V} (f:V->V) (hn:zs.length<1000) (hacc:H1 acc=none) (hz:SqL K H1 a zs)
  (hs:∀(z:V) (H3:Hp) (R:V->Hp->Prop),z∈zs->Same H1 H3->(∀H4,Same H3 H4->R (f z) H4)->te (some z::ρ) H3 R)
  (hd:∀H',Same H1 H'->H' acc=some (.lst (zs.map f))->Z H'):CompGo (Itl K a) ρ (jbA 0) jcl te acc Z H1:=by
 refine ji4 (zs:=zs) (fun i xs H=>Same H1 H/\H acc=some (.lst xs)/\xs=(zs.take i).map f) ⟨Same.new hacc _,jaf,rfl⟩ (fun i xs H _ h=>h.1.seq hz) ?_ ?_
 ·rintro i z xs H hi ⟨g1,g2,rfl⟩;refine hs z H _ (xav hi) g1 fun H4 s4=>⟨s4 _ _ g2,jaF ?_,Same.keepN (g1.trans s4) hacc _,jaf,?_⟩
  ·rw[xaa,xau];omega
  ·rw[xaZ,hi,xaj];rfl
 ·rintro xs H ⟨g1,g2,rfl⟩;rw[xa3] at g2;exact hd H g1 g2
end
section
variable {K:PySem.W.Frag} {H:Hp} {a b:Addr} {Q:VK}
theorem jfq (ns:List Int):SeqAt.shaped (.tuple (ns.map PyData.int))=true:=by
 simp [SeqAt.shaped,PyData.canLay0,PyData.depth,PySem.W.ke_canLayAll0,PySem.W.ke_depthAll]
theorem jkX {x y:List Int} (h1:SqT K H a (x.map V.int)) (h2:SqT K H b (y.map V.int)) (q:Q (.bl (decide (x=y))) H):ji5 K false (.ref a) (.ref b) H Q :=
 ⟨.tuple (x.map PyData.int),.tuple (y.map PyData.int),.tup h1 (RdsAll.ints _),.tup h2 (RdsAll.ints _),jfq _,jfq _,by
  have e:PyData.eqv (.tuple (x.map PyData.int)) (.tuple (y.map PyData.int))=decide (x=y):=PySem.W.ked_eqvAll x y;simp only[xcr,if_false,e];exact q⟩
theorem jkY {x y:List Int} (h1:SqT K H a (x.map V.int)) (h2:SqT K H b (y.map V.int)) (q:Q (.bl (!decide (x=y))) H):ji5 K true (.ref a) (.ref b) H Q :=
 ⟨.tuple (x.map PyData.int),.tuple (y.map PyData.int),.tup h1 (RdsAll.ints _),.tup h2 (RdsAll.ints _),jfq _,jfq _,by
  have e:PyData.eqv (.tuple (x.map PyData.int)) (.tuple (y.map PyData.int))=decide (x=y):=PySem.W.ked_eqvAll x y;simp only[if_true,e];exact q⟩
theorem jkZ {x y:List Int} (h1:SqL K H a (x.map V.int)) (h2:SqL K H b (y.map V.int)) (q:Q (.bl (decide (x=y))) H):ji5 K false (.ref a) (.ref b) H Q :=
 ⟨.list (x.map PyData.int),.list (y.map PyData.int),.lst h1 (RdsAll.ints _),.lst h2 (RdsAll.ints _),PySem.W.ke_shaped_ints _,PySem.W.ke_shaped_ints _,by
  have e:PyData.eqv (.list (x.map PyData.int)) (.list (y.map PyData.int))=decide (x=y):=PySem.W.ked_eqvAll x y;simp only[xcr,if_false,e];exact q⟩
theorem jfr {x y:List Int} (h1:SqL K H a (x.map V.int)) (h2:SqL K H b (y.map V.int)) (q:Q (.bl (!decide (x=y))) H):ji5 K true (.ref a) (.ref b) H Q :=
 ⟨.list (x.map PyData.int),.list (y.map PyData.int),.lst h1 (RdsAll.ints _),.lst h2 (RdsAll.ints _),PySem.W.ke_shaped_ints _,PySem.W.ke_shaped_ints _,by
  have e:PyData.eqv (.list (x.map PyData.int)) (.list (y.map PyData.int))=decide (x=y):=PySem.W.ked_eqvAll x y;simp only[if_true,e];exact q⟩
def jgB (nss:List (List Int)):List PyData:=nss.map fun ns=>.tuple (ns.map PyData.int)
theorem jhb:∀nss:List (List Int),PyData.canLayAll0 (jgB nss)=true/\PyData.depthAll (jgB nss)<=1
  | []=>⟨rfl,by decide⟩
  | ns :: r => by
    obtain⟨h1,h2⟩:=jhb r;have h1':PyData.canLayAll0 (r.map fun ns=>PyData.tuple (ns.map PyData.int))=true:=h1;have h2':PyData.depthAll (r.map fun ns=>PyData.tuple (ns.map PyData.int))<=1:=h2;constructor
    . simp [jgB,PyData.canLayAll0,PyData.canLay0,PySem.W.ke_canLayAll0,h1']
    . simp only[jgB,xay,PyData.depthAll,PyData.depth,PySem.W.ke_depthAll]
      omega
theorem jhc:∀x y:List (List Int),PyData.eqvAll (jgB x) (jgB y)=decide (x=y)
  | [],[]=>by simp [jgB,PyData.eqvAll]
  | [],_::_=>by simp [jgB,PyData.eqvAll]
  | _::_,[]=>by simp [jgB,PyData.eqvAll]
  | a :: r, b :: t => by
    have ih:=jhc r t;have e:PyData.eqv (.tuple (a.map PyData.int)) (.tuple (b.map PyData.int))=decide (a=b):=PySem.W.ked_eqvAll a b;show (PyData.eqv (.tuple (a.map PyData.int)) (.tuple (b.map PyData.int))&&PyData.eqvAll (jgB r) (jgB t))=_;rw[ih,e];by_cases h:a=b<;>by_cases h':r=t<;>simp [h,h']
theorem FoR.app {X:Prop} {L:Addr} {ps:List V} {x:V} {R:VK} (h:H L=some (.lst ps)) (hl:ps.length<sizeLine) (q:R .non (upd H L (.lst (ps++[x])))):((∃xs,SqL K H L xs)\/X)/\ji0 (.ref L) [x] H R :=
 ⟨.inl ⟨_,SqL.of h⟩,L,ps,x,rfl,rfl,h,hl,q⟩
end
theorem jk1 {X:Cx} (hc:X.calm=true):CallR X (.builtin "sum") (fun xs H Q=>∃(a:Addr) (ns:List Int),xs=[.ref a]/\SqL X.K H a (ns.map V.int)/\Q (.int ns.sum) H):=by
 intro pins s σ H xs us Q I r h;obtain⟨a,ns,rfl,hq,q⟩:=h;obtain⟨u,rfl,rx⟩:=jdK r;cases rx;obtain⟨its,rv,pl,hz⟩:=I.list hq;have ha:=jc1 rv;have hall:AllInts its.toArray:=ha.allInts;have hn:numsOf its=ns:=ha.numsOf;obtain⟨ps,e⟩:=hall.items;have hl:s.heap.IsList a (intItems ps):=by rw[<- e];exact pl.isList
 have en:ns=ps.toList.map (·.1):=by
  have z:=nums_intItems ps;rw[<- e] at z;rw[<- hn];exact z
 refine sum_intListG (I.ok.hd hc) hl fun h' tk t' hk=>?_;have es:preSum (numAt ps) ps.size=ns.sum:=by
  rw[preSum_eq,xbd (by simp),en]
 rw[es];exact⟨.int _,H,I.kept hk,⟨_,rfl⟩,q⟩
theorem jer {X:Cx} (hc:X.calm=true):CallR X (.builtin "min") (fun xs H Q=>∃(a:Addr) (ns:List Int),xs=[.ref a]/\SqL X.K H a (ns.map V.int)/\ns≠[]/\∀m:Int,m∈ns->(∀n∈ns,m<=n)->Q (.int m) H):=by
 intro pins s σ H xs us Q I r h;obtain⟨a,ns,rfl,hq,hne,q⟩:=h;obtain⟨u,rfl,rx⟩:=jdK r;cases rx;obtain⟨its,rv,pl,hz⟩:=I.list hq;have ha:=jc1 rv;have hall:AllInts its.toArray:=ha.allInts;have hn:numsOf its=ns:=ha.numsOf;obtain⟨ps,e⟩:=hall.items;have hl:s.heap.IsList a (intItems ps):=by rw[<- e];exact pl.isList
 have en:ns=ps.toList.map (·.1):=by
  have z:=nums_intItems ps;rw[<- e] at z;rw[<- hn];exact z
 have hlen:ns.length=ps.size:=by rw[en,xaa,Array.length_toList]
 have hpos:0<ps.size:=by
  rw[<- hlen];exact List.length_pos_iff.mpr hne
 refine min_intList (I.ok.hd hc) hl hpos fun v h' tk hv hk=>?_;obtain⟨t,rfl⟩:=intItems_at hv;obtain⟨b1,b2⟩:=argBest_lt (numAt ps) (ps.size-1);have pick:∀i,i<ps.size->numAt ps i∈ns:=fun i hi=>by
  rw[en];refine xax.mpr ⟨ps[i],by simp,?_⟩;simp [numAt,hi]
 refine⟨.int _,H,I.kept hk,⟨_,rfl⟩,q _ (pick _ (by omega)) fun n hm=>?_⟩;rw[en] at hm;obtain⟨p,hp,rfl⟩:=xax.mp hm;obtain⟨i,hi,rfl⟩:=Array.mem_iff_getElem.mp (Array.mem_toList_iff.mp hp);have z:=b2 i (by omega);have ei:numAt ps i=ps[i].1:=by simp [numAt,hi]
 rw[ei] at z;exact z
theorem FoR.tupOf {K:PySem.W.Frag} {H:Hp} {p:Addr} {ys:List V} {X:Prop} {R:Addr->Hp->Prop} (k:SqL K H p ys) (h:∀t H',Same H H'->H' t=some (.tup ys)->R t H'):∃ys,(SqL K H p ys/\∀l,H l=none->R l (upd H l (.tup ys)))\/(SqT K H p ys/\R p H) :=
 ⟨ys,.inl ⟨k,fun l hl=>h l _ (Same.new hl _) jaf⟩⟩
theorem jaM {es:List Expr} {k:Nat} {jbP:List Expr} {pos:Pos} {env:Env}:starEach (.Tuple es k pos::jbP) env=(false,eval (.Tuple es k pos) env)::starEach jbP env:=by
 rw[starEach];intro e p h;cases h
theorem jam {c:Const} {k:Nat} {jbP:List Expr} {pos:Pos} {env:Env}:starEach (.Constant c k pos::jbP) env=(false,eval (.Constant c k pos) env)::starEach jbP env:=by
 rw[starEach];intro e p h;cases h
theorem jh9 {op:UnaryOp} {a:Expr} {jbP:List Expr} {pos:Pos} {env:Env}:starEach (.UnaryOp op a pos::jbP) env=(false,eval (.UnaryOp op a pos) env)::starEach jbP env:=by
 rw[starEach];intro e p h;cases h
theorem jag {x:Str} {jbP:List Expr} {pos:Pos} {env:Env}:starEach (.Name x pos::jbP) env=(false,eval (.Name x pos) env)::starEach jbP env:=by
 rw[starEach];intro e p h;cases h
theorem jaN {a:Expr} {es:List Expr} {ks:List Keyword} {jbP:List Expr} {pos:Pos} {env:Env}:starEach (.Call a es ks pos::jbP) env=(false,eval (.Call a es ks pos) env)::starEach jbP env:=by
 rw[starEach];intro e p h;cases h
theorem jbf {a b:Expr} {op:Operator} {jbP:List Expr} {pos:Pos} {env:Env}:starEach (.BinOp a op b pos::jbP) env=(false,eval (.BinOp a op b pos) env)::starEach jbP env:=by
 rw[starEach];intro e p h;cases h
theorem jau {a b:Expr} {jbP:List Expr} {pos:Pos} {env:Env}:starEach (.Subscript a b pos::jbP) env=(false,eval (.Subscript a b pos) env)::starEach jbP env:=by
 rw[starEach];intro e p h;cases h
theorem je0 {es:List Expr} {jbP:List Expr} {pos:Pos} {env:Env}:starEach (.List es pos::jbP) env=(false,eval (.List es pos) env)::starEach jbP env:=by
 rw[starEach];intro e p h;cases h
theorem jb4 {a:Expr} {gs:List Comprehension} {sc:Scope} {jbP:List Expr} {pos:Pos} {env:Env}:starEach (.ListComp a gs sc pos::jbP) env=(false,eval (.ListComp a gs sc pos) env)::starEach jbP env:=by
 rw[starEach];intro e p h;cases h
structure WE (X:Cx) (e:Expr) (t:TE):Prop where
 h:PE X e t
structure WA (X:Cx) (es:List Expr) (t:TA):Prop where
 h:PA X es t
structure WS (X:Cx) (st:Stmt) (t:TS):Prop where
 h:PS X st t
structure WSs (X:Cx) (st:List Stmt) (t:TS):Prop where
 h:PSs X st t
section
variable {X:Cx} {pos:Pos}
theorem jk2 {st:Stmt} {jbP:List Stmt} {t u:TS} (h1:WS X st t) (h2:WSs X jbP u):WSs X (st::jbP) (joq t u):=⟨jae h1.h h2.h⟩
theorem jdk {st:Stmt} {jbP:List Stmt} {t u:TS} (M:St->Hp->Prop) (h1:WS X st t) (h2:WSs X jbP u):WSs X (st::jbP) (jot M t u):=⟨ja3 M h1.h h2.h⟩
theorem jf9 {tg e:Expr} {te:TE} {g:TG} (he:WE X e te) (hg:PG X tg g) (hs:swapsWithSole [tg] e pos.line X.env=pure false:=by rfl) (hw:swappedStores [tg] e X.env=pure none:=by rfl)
  (h1:(assignEach [tg] X.env).map (·.2)=[assign tg X.env]:=by rfl):WS X (.Assign [tg] e pos) (jkO te g):=⟨jcC he.h hg hs hw h1⟩
theorem joT {r:R2} {a b:Expr} {ta tb:TE} (hr:IxR X r) (ha:WE X a ta) (hb:PE X b tb) (hs:jiX b):WE X (.Subscript a b pos) (tOp r ta tb):=⟨jaj hr ha.h hb hs⟩
theorem jcE {es:List Expr} {t:TA} (h:WA X es t):WE X (.List es pos) (jl3 t):=⟨jbs h.h⟩
theorem ja0 {es:List Expr} {k:Nat} {t:TA} (h:WA X es t):WE X (.Tuple es k pos) (jm4 t):=⟨jaQ h.h⟩
theorem jaL:WA X [] jkQ:=⟨jac⟩
theorem jak {e:Expr} {es:List Expr} {te:TE} {t:TA} (ha:WE X e te) (hr:WA X es t) (hs:starEach (e::es) X.env=(false,eval e X.env)::starEach es X.env):WA X (e::es) (jeQ te t):=⟨jaa ha.h hr.h hs⟩
end
section
variable {P:Program} {w:World} {K:PySem.W.Frag} {mg:Str->Option Value} {base:Heap}
theorem At.okW {x:Str} {st:Stmt} {N ps:List Str} {dvs:List V} {k:Nat} {sp:Sp} (F:At K mg x st ps dvs) (S:FnScope N ps (jad st)) (len:∀vs H Q E,sp vs H Q E->vs.length=ps.length)
  (hbody:∀(f:Addr) (cdv:Value) (A:Around) (outer:List Env) (s:Shared) (H:Hp) (vs:List V) (Q:VK) (E:XK),Room k (A.deeper (envOfC x (jad st) s.heap.objs.size f cdv))->sp vs H Q E ->
   ∃t,WSs (jix CX0 P w K mg base N x (jad st) f cdv A outer s H E).nox (jbc st) t/\t { nx:=fun _ H'=>Q .non H',rt:=Q } (jdv N vs) H):jal P w K mg base CX0 (k+1) x ps dvs sp :=
 F.ok S len fun f cdv A outer s H vs Q E hr h=>let ⟨t,h1,h2⟩:=hbody f cdv A outer s H vs Q E hr h;⟨t,h1.h,h2⟩
end
section
variable {X:Cx}
theorem jk3:OpR X (binaryOp .FloorDiv) (rI (fun _ j=>j≠0/\Fit j) fun i j=>.int (i.fdiv j)):=opI fun i j _ _ _ _ _ hc q=>by
 exact floordiv_int hc.1 q (.inl (PyProof.noPylong_of_log2 hc.2.log))
end
section
variable {ρ:St} {te:TE} {tt:TT} {acc:Addr} {Z:Hp->Prop} {H1:Hp}
def SameT (H H':Hp):Prop:=∀a xs,H a=some (.tup xs)->H' a=some (.tup xs)
theorem Same.t {H H':Hp} (s:Same H H'):SameT H H':=fun a xs h=>s a _ h
theorem SameT.trans {H H' J:Hp} (s:SameT H H') (t:SameT H' J):SameT H J:=fun a xs h=>t a xs (s a xs h)
theorem SameT.refl (H:Hp):SameT H H:=fun _ _ h=>h
theorem SameT.upd {H:Hp} {a:Addr} {xs ys:List V} (h:H a=some (.lst xs)):SameT H (upd H a (.lst ys)):=fun b zs hb=>by
 have ne:b≠a:=fun e=>by
  subst e;rw[h] at hb;cases hb
 rw[jaC ne];exact hb
def Stab (p:Nat->V->Hp->Prop):Prop:=∀i y H H',p i y H->SameT H H'->p i y H'
theorem joU {p:Nat->V->Hp->Prop} {xs:List V} {y:V} {i:Nat} {H:Hp} (hl:xs.length=i) (hp:∀j z,xs[j]?=some z->p j z H) (py:p i y H):∀j z,(xs++[y])[j]?=some z->p j z H:=fun j z hz=>by
 by_cases cj:j<xs.length
 ·rw[xaH cj] at hz;exact hp j z hz
 ·have cj2:j<(xs++[y]).length:=(xag.mp hz).1;rw[xad] at cj2;have e:j=i:=by
   have:j<xs.length+1:=cj2;omega
  subst e;rw[xat (by omega),hl,xcq] at hz;cases hz;exact py
theorem joV {lo:Int} {n:Nat} (p:Nat->V->Hp->Prop) (st:Stab p) (hn:n<1000) (hacc:H1 acc=none)
  (hs:∀(i:Nat) (H3:Hp) (R:V->Hp->Prop),i<n->Same H1 H3->(∀y H4,Same H3 H4->p i y H4->R y H4)->te (some (.int (lo+i))::ρ) H3 R)
  (hd:∀ys H',Same H1 H'->H' acc=some (.lst ys)->ys.length=n->(∀i y,ys[i]?=some y->p i y H')->Z H'):CompGo (Itr lo n) ρ (jbA 0) jcl te acc Z H1:=by
 refine jc3 (fun i xs H=>Same H1 H/\H acc=some (.lst xs)/\xs.length=i/\∀j y,xs[j]?=some y->p j y H) ⟨Same.new hacc _,jaf,rfl,fun j y h=>by simp at h⟩ ?_ ?_
 ·rintro i xs H hi ⟨g1,g2,hl,hp⟩;refine hs i H _ hi g1 fun y H4 s4 py=>⟨s4 _ _ g2,jaF (by omega),Same.keepN (g1.trans s4) hacc _,jaf,?_,?_⟩
  ·rw[xad,hl];rfl
  ·have u:=SameT.upd (ys:=xs++[y]) (s4 _ _ g2);exact joU hl (fun j z hz=>st _ _ _ _ (hp j z hz) (s4.t.trans u)) (st _ _ _ _ py u)
 ·rintro xs H ⟨g1,g2,hl,hp⟩;exact hd xs H g1 g2 hl hp
theorem jma {K:PySem.W.Frag} {a:Addr} {zs:List V} (p:Nat->V->Hp->Prop) (st:Stab p) (hn:zs.length<1000) (hacc:H1 acc=none) (hz:SqT K H1 a zs)
  (hs:∀(i:Nat) (z:V) (H3:Hp) (R:V->Hp->Prop),zs[i]?=some z->Same H1 H3->(∀y H4,Same H3 H4->p i y H4->R y H4)->te (some z::ρ) H3 R)
  (hd:∀ys H',Same H1 H'->H' acc=some (.lst ys)->ys.length=zs.length->(∀i y,ys[i]?=some y->p i y H')->Z H'):CompGo (Itt K a) ρ (jbA 0) jcl te acc Z H1:=by
 refine jfo (zs:=zs) (fun i xs H=>Same H1 H/\H acc=some (.lst xs)/\xs.length=i/\∀j y,xs[j]?=some y->p j y H) ⟨Same.new hacc _,jaf,rfl,fun j y h=>by simp at h⟩ (fun i xs H _ h=>h.1.tup hz) ?_ ?_
 ·rintro i z xs H hi ⟨g1,g2,hl,hp⟩;have hlt:=(xag.mp hi).1;refine hs i z H _ hi g1 fun y H4 s4 py=>⟨s4 _ _ g2,jaF (by omega),Same.keepN (g1.trans s4) hacc _,jaf,?_,?_⟩
  ·rw[xad,hl];rfl
  ·have u:=SameT.upd (ys:=xs++[y]) (s4 _ _ g2);exact joU hl (fun j z hz=>st _ _ _ _ (hp j z hz) (s4.t.trans u)) (st _ _ _ _ py u)
 ·rintro xs H ⟨g1,g2,hl,hp⟩;exact hd xs H g1 g2 hl hp
theorem jm9 {K:PySem.W.Frag} {a:Addr} {zs:List V} (f:Nat->V) (c:Nat->Bool) (hn:zs.length<1000) (hacc:H1 acc=none) (hz:SqL K H1 a zs)
  (ht:∀(i:Nat) (z:V) (H3:Hp) (R:Bool->Hp->Prop),zs[i]?=some z->Same H1 H3->(∀H4,Same H3 H4->R (c i) H4)->tt (some z::ρ) H3 R)
  (hs:∀(i:Nat) (z:V) (H3:Hp) (R:V->Hp->Prop),zs[i]?=some z->c i=true->Same H1 H3->(∀H4,Same H3 H4->R (f i) H4)->te (some z::ρ) H3 R)
  (hd:∀H',Same H1 H'->H' acc=some (.lst (((List.range zs.length).filter c).map f))->Z H'):CompGo (Itl K a) ρ (jbA 0) tt te acc Z H1:=by
 refine⟨fun i m xs H=>(Same H1 H/\H acc=some (.lst xs)/\xs=((List.range i).filter c).map f)/\i<=zs.length/\m=zs.length-i,⟨zs.length,⟨Same.new hacc _,jaf,rfl⟩,xaG _,rfl⟩,?_⟩;rintro i m xs H ⟨⟨g1,g2,rfl⟩,hi,rfl⟩;have sq:=g1.seq hz;have hl:(((List.range i).filter c).map f).length<sizeLine:=jaF (by
  rw[xaa];have:=xbQ c (List.range i);rw[xaV] at this;omega)
 by_cases hlt:i<zs.length
 ·have ez:zs[i]?=some zs[i]:=xab hlt;refine .inr ⟨⟨zs,zs[i],sq,ez⟩,(fun y H4=>y=f i/\c i=true/\Same H1 H4/\H4 acc=some (.lst (((List.range i).filter c).map f))),fun H3=>c i=false/\Same H1 H3/\H3 acc=some (.lst (((List.range i).filter c).map f)),?_,?_,?_⟩
  ·rintro y H4 ⟨rfl,ci,s4,a4⟩;refine⟨a4,hl,zs.length-(i+1),by omega,⟨Same.keepN s4 hacc _,jaf,?_⟩,hlt,rfl⟩;rw[xaM,xaB,xaj,xaX,if_pos ci];rfl
  ·rintro H3 ⟨ci,s3,a3⟩;refine⟨zs.length-(i+1),by omega,⟨s3,a3,?_⟩,hlt,rfl⟩;rw[xaM,xaB,xaj,xaX,if_neg (by rw[ci];decide)];simp
  ·rintro v0 x H' ⟨rfl,hx⟩;have ex:x=zs[i]:=by
    have z:=hx zs sq;rw[ez] at z;exact (Option.some.inj z).symm
   subst ex;refine⟨⟨_,rfl⟩,ht i _ H' _ ez g1 fun H4 s4=>?_⟩;cases ci:c i with
   | true=>exact if_pos rfl▸hs i _ H4 _ ez ci (g1.trans s4) fun H5 s5=>⟨rfl,rfl,g1.trans (s4.trans s5),s5 _ _ (s4 _ _ g2)⟩
   | false=>exact⟨rfl,g1.trans s4,s4 _ _ g2⟩
 ·have:i=zs.length:=by omega
  subst this;exact .inl ⟨⟨zs,sq,xae _⟩,hd H g1 g2⟩
end
section
variable {X:Cx} {tg:Expr}
def Asc (x:Str):Prop:=(x.cps.all fun c=>decide (c<128))=true
def Its (x:Str):It:=⟨fun i _=>i<x.cps.size,fun i H v H'=>H'=H/\∃c,x.cps[i]?=some c/\v=.str ⟨#[c]⟩,fun i _=>x.cps.size<=i⟩
def iStr (tl:TE):TI:=fun σ H R=>tl σ H fun v H1=>∃x,v=.str x/\Asc x/\R (Its x) H1
end
section
variable {tl:TE} {g:TG} {tb:TS} {D:Ends} {σ:St} {H:Hp} {ix:List Nat} {tt:TT} {te:TE} {Q:VK}
theorem jmb:jm0 (iStr tl) g tb D σ H=tl σ H fun v H1=>∃x,v=.str x/\Asc x/\jou (Its x) g tb D σ H1:=rfl
theorem jjb:jf7 (iStr tl) ix g tt te σ H Q=tl σ H fun v H1=>∃x,v=.str x/\Asc x/\∀acc,H1 acc=none->CompGo (Its x) (jaD σ ix) g tt te acc (fun H'=>Q (.ref acc) H') H1:=rfl
end
theorem jna:typeLookup (.type "list_reverseiterator") "__len__"=pure none:=by with_unfolding_all rfl
theorem jk4:typeLookup (.type "list_reverseiterator") "__length_hint__"=pure (some (.builtin "list_reverseiterator.__length_hint__")):=by with_unfolding_all rfl
theorem jk5 {M:Model} {A:Around} {E:Value->Shared->Prop} {s:Shared} {Q:Bool->Shared->Prop} {I l:Addr} {i:Int} (h:s.heap.IsRevIter I l i) (q:Q false s):wpAny M A (Builtin.List.listLengthHint (.ref I)) Q E s:=by
 obtain⟨o,ho,hc,hd⟩:=h;have ty:s.TypeIs (.ref I) "list_reverseiterator":=⟨o,ho,hc⟩;unfold Builtin.List.listLengthHint;refine wpAny_bind (wpAny_specialOf ty jna ?_);dsimp only;refine wpAny_ite_split (fun c=>absurd c (by decide)) fun _=>?_;refine wpAny_ite_split (fun c=>absurd c (by decide)) fun _=>?_;refine wpAny_bind (wpAny_specialOf ty jk4 ?_);dsimp only;have sp:splitId "list_reverseiterator.__length_hint__"=some ("list_reverseiterator","__length_hint__"):=by decide +kernel
 rw[sp];dsimp only;refine wpAny_bind (wpAny_isInstance (b:=true) ty (by with_unfolding_all rfl) ?_);refine wpAny_ite_split (fun c=>absurd c (by decide)) fun _=>?_;refine wpAny_ite_split (fun c=>?_) fun c=>absurd c (by decide);refine wpAny_ite_split (fun c=>absurd c (by decide)) fun _=>?_;exact wpAny_pure q
theorem jia {prog:Program} {w:World} {A:Around} {s:Shared} {R:Result->Shared->Prop} {I l:Addr} {items:Array Value} (hh:A.handled=none) (hne:l≠I) (S:Addr) (res:Value) (c₀:Nat) (hI:s.heap.IsRevIter I l ((items.size:Int)-1)) (hl:s.heap.IsList l items) (hS:S≠I) (hSl:S≠l)
  (e:s.heap.get? S=some { cls:=.type "list",data:=.seq #[] c₀ }) (hz:items.size<=sizeLine)
  (q:∀(h':Heap) (tk:Nat) (acc':Array Value) (c':Nat),(∀b o,b≠S->b≠I->s.heap.get? b=some o->h'.get? b=some o)->h'.get? S=some { cls:=.type "list",data:=.seq acc' c' }->ItemsOf (fun i v=>items[items.size-1-i]?=some v) acc' items.size->R (.ok (.ret res)) { s with heap:=h',toks:=tk }) :
  wpAny (model prog w) A.in1 (Builtin.List.listExtendWith (.ref S) (.ref I) res)
   (fun fin s'=>match fin with | .done f=>R (.ok f) s' | .again c'=>c'.quiet=true/\codeAny (model prog w) A c' R s') (fun e s'=>R (.error e) s') s:=by
 obtain⟨o,ho,hc,hd⟩:=id hI;have ty:s.TypeIs (.ref I) "list_reverseiterator":=⟨o,ho,hc⟩;unfold Builtin.List.listExtendWith;refine wpAny_bind (wpAny_typeOf ty ?_);refine wpAny_ite_split (fun c=>?_) fun _=>?_
 ·exfalso;have e1:Builtin.List.listSameRef (.ref S) (.ref I)=false:=by
   simp [Builtin.List.listSameRef,hS]
  rw[e1] at c
  revert c
  decide
 refine wpAny_bind (wpAny_pyIter_revIter hI ?_);refine wpAny_bind (wpAny_holding (jk5 hI ?_));refine wpAny_ite_split (fun c=>absurd c (by decide)) fun _=>?_;have W:=(Walks.listRev (prog:=prog) (w:=w) (A:=A.in1) hh I l hne items).toS;refine wpAny_pure ⟨plainId_quiet F.plain_extend_loop _,?_⟩;refine codeAny_extend_loopS W hz S (by simp [hS,hSl]) res items.size 0 s #[] c₀ rfl (xaG _) ⟨xaG _,by simpa using hI,hl⟩ e ⟨rfl,fun j v h=>by simp at h⟩ fun s' acc' c' mv e' it=>?_;have eq:=Moved.eq_with mv;rw[eq];exact q s'.heap s'.toks acc' c' (fun b o h1 h2 e=>mv.heap b o (by simp [h1,h2]) e) e' it
theorem jk6 {prog:Program} {w:World} {A:Around} {s:Shared} {R:Result->Shared->Prop} {I l:Addr} {items:Array Value} (hh:A.handled=none) (hne:l≠I) (S:Addr) (hI:s.heap.IsRevIter I l ((items.size:Int)-1)) (hl:s.heap.IsList l items) (hS:S≠I) (hSl:S≠l)
  (e:s.heap.get? S=some { cls:=.type "list",data:=.seq #[] }) (hz:items.size<=sizeLine)
  (q:∀(h':Heap) (tk:Nat) (acc':Array Value) (c':Nat),(∀b o,b≠S->b≠I->s.heap.get? b=some o->h'.get? b=some o)->h'.get? S=some { cls:=.type "list",data:=.seq acc' c' }->ItemsOf (fun i v=>items[items.size-1-i]?=some v) acc' items.size->R (.ok (.ret .none)) { s with heap:=h',toks:=tk }) :
  wpAny (model prog w) A.in1 (Builtin.«list.__init__» { pos:=[.ref S,.ref I] })
   (fun fin s'=>match fin with | .done f=>R (.ok f) s' | .again c'=>c'.quiet=true/\codeAny (model prog w) A c' R s') (fun e s'=>R (.error e) s') s:=by
 unfold Builtin.«list.__init__»;dsimp only;refine wpAny_ite_split (fun c=>absurd c (by decide)) fun _=>?_;refine wpAny_ite_split (fun c=>absurd c (by simp)) fun _=>?_;refine wpAny_bind (wpAny_bind (wpAny_seqItems e rfl (wpAny_pure ?_)));refine wpAny_bind (wpAny_updateSeq e rfl ?_ (by simp) (by simp));refine wpAny_bind (wpAny_letGo ?_);have eS:=Heap.get?_update_self (Obj.mapSeq fun _=>(#[]:Array Value)) e rfl;have eO:∀b,b≠S->(s.heap.update S (Obj.mapSeq fun _=>(#[]:Array Value))).get? b=s.heap.get? b:=fun b hb=>Heap.get?_update_other s.heap _ (Ne.symm hb);obtain⟨o,ho,hc,hd⟩:=hI;obtain⟨o2,ho2,hc2,n2,hd2⟩:=hl;refine jia (s:={ s with heap:=s.heap.update S (Obj.mapSeq fun _=>(#[]:Array Value)) }) (items:=items) hh hne S .none _ ⟨o,(eO I (Ne.symm hS)).trans ho,hc,hd⟩ ⟨o2,(eO l (Ne.symm hSl)).trans ho2,hc2,n2,hd2⟩ hS hSl eS hz fun h' tk acc' c' k e' it=>?_;exact q h' tk acc' c' (fun b o h1 h2 hb=>k b o h1 h2 ((eO b h1).trans hb)) e' it
theorem jfs {prog:Program} {w:World} {A:Around} {E:Value->Shared->Prop} {s:Shared} {Q:Value->Shared->Prop} {I l:Addr} {items:Array Value} (hh:A.handled=none) (hne:l≠I) (hI:s.heap.IsRevIter I l ((items.size:Int)-1)) (hl:s.heap.IsList l items) (hz:items.size<=sizeLine)
  (q:∀(h':Heap) (tk:Nat) (acc':Array Value) (c':Nat),(∀b o,b≠I->s.heap.get? b=some o->h'.get? b=some o)->h'.get? s.heap.objs.size=some { cls:=.type "list",data:=.seq acc' c' }->ItemsOf (fun i v=>items[items.size-1-i]?=some v) acc' items.size->Q (.ref s.heap.objs.size) { s with heap:=h',toks:=tk }) :
  wpAny (model prog w) A (call (.type "list") [.ref I]) Q E s:=by
 obtain⟨o,ho,hc,hd⟩:=hI;obtain⟨o2,ho2,hc2,n2,hd2⟩:=hl;have n1:s.heap.objs.size≠I:=Ne.symm (xan (Heap.lt_size ho));have n2':s.heap.objs.size≠l:=Ne.symm (xan (Heap.lt_size ho2));refine callType_codes F.called_list (F.typeCall_list_1 _) F.entry_list_init (Q₁:=fun obj s₁=>obj=.ref s.heap.objs.size/\s₁={ s with heap:=s.heap.push { cls:=.type "list",data:=.seq #[] } }) (code_list_new _ ⟨rfl,rfl⟩) ?_;rintro obj s₁ ⟨rfl,rfl⟩;have eS:(s.heap.push { cls:=.type "list",data:=.seq #[] }).get? s.heap.objs.size=some { cls:=.type "list",data:=.seq #[] }:=Heap.get?_push_size _ rfl;refine⟨⟨_,eS,rfl⟩,F.args_list_init_2 _ _,?_⟩;refine jk6 (A:=A.in1) (s:={ s with heap:=s.heap.push { cls:=.type "list",data:=.seq #[] } }) (items:=items) hh hne s.heap.objs.size ⟨o,Heap.get?_push_of_some _ ho,hc,hd⟩ ⟨o2,Heap.get?_push_of_some _ ho2,hc2,n2,hd2⟩ n1 n2' eS hz fun h' tk acc' c' k e' it=>?_;exact⟨rfl,q h' tk acc' c' (fun b o h1 hb=>k b o (xan (Heap.lt_size hb)) h1 (Heap.get?_push_of_some _ hb)) e' it⟩
theorem Vals.app {xs ys:List V} {us vs:List Value} (h:Vals xs us) (k:Vals ys vs):Vals (xs++ys) (us++vs):=by
 induction h with
 | nil=>exact k
 | cons r _ ih=>exact .cons r ih
theorem Vals.rev {xs:List V} {us:List Value} (h:Vals xs us):Vals xs.reverse us.reverse:=by
  induction h with
  | nil=>exact .nil
  | cons r _ ih =>
    rw[xaP,xaP];exact Vals.app ih (.cons r .nil)
theorem jjc {items acc:Array Value} (h:ItemsOf (fun i v=>items[items.size-1-i]?=some v) acc items.size):acc.toList=items.toList.reverse:=by
 obtain⟨h1,h2⟩:=h;refine xbH fun i=>?_;by_cases hi:i<items.size
 ·have e:acc[i]?=some acc[i]:=Array.getElem?_eq_getElem (by omega);have z:=h2 i _ e;rw[xbR (by rw[Array.length_toList];exact hi),Array.length_toList,Array.getElem?_toList,Array.getElem?_toList,e,z]
 ·rw[xaF (by rw[Array.length_toList];omega),xaF (by rw[xaQ,Array.length_toList];omega)]
section
variable {X:Cx} {e:Expr} {te:TE} {p p' pos pos':Pos}
def jft (K:PySem.W.Frag) (te:TE):TE:=fun σ H Q=>te σ H fun x H1=>∃a ys,x=.ref a/\SqL K H1 a ys/\∀l,H1 l=none->Q (.ref l) (upd H1 l (.lst ys.reverse))
theorem jib (hc:X.calm=true) (hg:Gl X "list") (hm:X.mg "list"=none) (hg':Gl X "reversed") (hm':X.mg "reversed"=none) (he:PE X e te)
  (h1:starEach [e] X.env=[(false,eval e X.env)]:=by rfl) (h2:starEach [.Call (.Name "reversed" p') [e] [] pos'] X.env=[(false,eval (.Call (.Name "reversed" p') [e] [] pos') X.env)]:=by rfl) :
  PE X (.Call (.Name "list" p) [.Call (.Name "reversed" p') [e] [] pos'] [] pos) (jft X.K te):=by
 intro pins s σ H Q I h;refine wpAny_Call_Name_kw (jej I hg hm boot_list ?_);refine PyProof.Rows.callWith_type1 ?_ h2 rfl;rw[h2];show wpAny _ _ (spliced ((false,eval (.Call (.Name "reversed" p') [e] [] pos') X.env)::[])) _ _ s;refine Calls.spliced_cons ?_;refine wpAny_Call_Name_kw (jej I hg' hm' boot_reversed ?_);refine PyProof.Rows.callWith_type1 ?_ h1 rfl;rw[h1];show wpAny _ _ (spliced ((false,eval e X.env)::[])) _ _ s;refine Calls.spliced_cons (thn (he pins s σ H _ I h) fun u s1 ⟨x,H1,I1,r1,q1⟩=>?_);obtain⟨a,ys,rfl,hq,q⟩:=q1;cases r1;obtain⟨its,rv,pl,hz⟩:=I1.list hq;have hlen:=rv.length;refine Calls.spliced_nil ?_;refine call_reversed_list pl.isList ?_;refine Calls.spliced_nil ?_;have hla:a<s1.heap.objs.size:=by
  obtain⟨o,ho,_⟩:=pl.isList;exact Heap.lt_size ho
 have hl':(s1.heap.push (revObj a ((its.toArray.size:Int)-1))).IsList a its.toArray:=by
  obtain⟨o,ho,hc',n,hd⟩:=pl.isList;exact⟨o,Heap.get?_push_of_some _ ho,hc',n,hd⟩
 refine jfs (I1.ok.hd hc) (xan hla) ⟨_,Heap.get?_push_size _ rfl,rfl,rfl⟩ hl' (by rw[xai];omega) fun h' tk acc' c' k e' it=>?_;have er:=jjc it;rw[List.toList_toArray] at er;have kp:∀(b:Addr) (o:Obj),s1.heap.get? b=some o->h'.get? b=some o:=fun b o hb=>k b o (xan (Heap.lt_size hb)) (Heap.get?_push_of_some _ hb);have sz:(s1.heap.push (revObj a ((its.toArray.size:Int)-1))).objs.size=s1.heap.objs.size+1:=by
  unfold Heap.push;exact Array.size_push ..
 have hle:s1.heap.objs.size<=(s1.heap.push (revObj a ((its.toArray.size:Int)-1))).objs.size:=by omega
 refine⟨.ref _,_,I1.laid (t':=tk) (o:=.lst ys.reverse) kp hle ?_,rfl,q _ (I1.hok.fresh hle)⟩;refine⟨by rw[xaQ];exact hz,its.reverse,c',rv.rev,?_⟩;rw[e',<- er]
end
structure CompScopeM (N:List Str) (sc:Scope) (N':List Str) (ix:List Nat) (xs0:List Str) (r:List Str) (cs:Scope):Prop where
 eq:N'=xs0++r
 kind:cs.kind=.function
 hcell:∀y∈cs.names,y.2≠.cell
 hnames:∀y∈cs.names,y.2=.local->cs.names.lookup y.1=some .local
 nd:(xs0++r).Nodup
 fr:∀y∈cs.names,y.2=.free->sc.names.lookup y.1=some .cell\/sc.names.lookup y.1=some .free
 ixs:Ixs N sc cs r ix
def jbS (J:It) (n:Nat) (ρ:St) (g:TG) (tt:TT) (te:TE) (acc:Addr) (Z:Hp->Prop) (H1:Hp):Prop :=
  ∃ W : Nat -> Nat -> List V -> Hp -> Prop, (∃ m, W 0 m [] (upd H1 acc (.lst []))) /\ ∀ i m xs H, W i m xs H ->
    ((J.stop i H /\ Z H) \/ (J.go i H /\ ∃ (Nx : V -> Hp -> Prop) (Nn : Hp -> Prop), (∀ y H4, Nx y H4 -> H4 acc = some (.lst xs) /\ xs.length < sizeLine /\ ∃ m', m' < m /\ W (i + 1) m' (xs ++ [y]) (upd H4 acc (.lst (xs ++ [y])))) /\
      (∀H3,Nn H3->∃m',m'<m/\W (i+1) m' xs H3)/\∀(v0:St) x H',v0.length=n->J.yld i H x H'->g x (v0++ρ) H' fun σ2 H2=>(∃v:St,v.length=n/\σ2=v++ρ)/\tt σ2 H2 fun b H3=>if b=true then te σ2 H3 Nx else Nn H3))
section
variable {X:Cx} {pins:List (Addr × Obj)} {σ:St} {H:Hp} {s:Shared}
theorem Inv.compOkM {N' r:List Str} {ix:List Nat} {xs0:List Str} {cs:Scope} {cl:List (Str × Addr)} {fp:List Addr} (I:Inv X pins σ H s) (S:CompScopeM X.N X.env.scope N' ix xs0 r cs)
  (h2:∀y c,cl.lookup y=some c->X.env.cells.lookup y=some c) (h3:∀y,(y,NameKind.free)∈cs.names->∃c,cl.lookup y=some c) (hf:∀b∈fp,jeW X pins H b) (hfp:∀b∈fp,b<s.heap.objs.size) :
  (jbu X N' cs cl s H fp).Ok where
 mod:=I.ok.mod
 kind:=S.kind
 glob:=I.ok.glob
 blt:=I.ok.blt
 above:=xae _
 inj:=fun a b c ha hb=>I.ok.inj a b c (h2 a c ha) (h2 b c hb)
 has:=fun y hy=>h3 y (hy.elim (fun z=>jb3 S.hcell z (.inl rfl)) fun z=>jb3 S.hcell z (.inr rfl))
 cab:=fun _ _ z=>nomatch z
 hd:=I.ok.hd
 frames:=I.ok.frames
 stk:=.inl rfl
 exf:=fun b hb=>⟨xan (hfp b hb),fun y c e=>(hf b hb).2.2.2.2.1 y c (h2 y c e)⟩
 bs:=I.bs
 bsz:=xaE I.ok.bsz I.sz
 noex:=fun b o e hb=>by
  rcases (hf b hb).2.2.2.1 with z | z
  ·exact I.ok.noex b o e z
  ·exact absurd (xao (Heap.lt_size e) (xaE I.ok.bsz z)) (xbh _)
 exfs:=fun b hb hs=>by
  rcases xap.mp (I.stkSub b hs) with z | z
  ·exact (hf b hb).2.1 z
  ·exact (hf b hb).2.2.1 z
 funs:=I.stack
 frf:=I.stkFree
theorem Inv.compStartM {N' r:List Str} {ix:List Nat} {xs0:List Str} {cs:Scope} {cl:List (Str × Addr)} {fp:List Addr} {h1:Heap} {tk:Nat} {m:Str->Option Value} (I:Inv X pins σ H s) (S:CompScopeM X.N X.env.scope N' ix xs0 r cs)
  (h2:∀y c,cl.lookup y=some c->X.env.cells.lookup y=some c) (h3:∀y,(y,NameKind.free)∈cs.names->∃c,cl.lookup y=some c) (hf:∀b∈fp,jeW X pins H b) (hfp:∀b∈fp,b<s.heap.objs.size)
  (hn:h1.Ns s.heap.objs.size m) (hk:∀b o,s.heap.get? b=some o->h1.get? b=some o) :
  Inv (jbu X N' cs cl s H fp) [] (List.replicate xs0.length none++jaD σ ix) H { s with heap:=h1,toks:=tk }:=by
 have ok:=I.compOkM (N':=N') (fp:=fp) S h2 h3 hf hfp;obtain⟨mo,hno,hlo⟩:=id I.loc;refine⟨ok,rfl,I.bare,Un.kept hk,⟨m,hn,fun i y v e1 e2 e3=>?_⟩,fun y c e=>?_,I.hok.fresh (xae _),fun y c e=>I.freeC y c (h2 y c e),fun p hp=>absurd (show p∈([]:List (Addr × Obj)) from hp) (by simp),I.hok.kept hk,?_⟩
 ·by_cases hi:i<xs0.length
  ·rw[xaH (by rw[xaN];exact hi),xb3,if_pos hi] at e2;cases e2
  ·have e1':r[i-xs0.length]?=some y:=by
    have:N'[i]?=some y:=e1;rw[S.eq,xat (by omega)] at this;exact this
   have e2:(jaD σ ix)[i-xs0.length]?=some (some v):=by
    rw[xat (by rw[xaN];omega),xaN] at e2;exact e2
   obtain⟨j,j1,j2,j3,j4⟩:=S.ixs.get e1';obtain⟨j',k1,k2⟩:=jdj (σ:=σ) (ix:=ix) (i:=i-xs0.length) (v:=v) e2;rw[j1] at k1;cases k1;obtain⟨u,ru,lk⟩:=hlo j y v j2 k2 (j3.elim (fun z=>.inr (.inl z)) fun z=>.inr (.inr z));refine⟨u,ru,?_⟩;obtain⟨c,hc⟩:=h3 y (PySem.mem_of_lookup j4);rcases lk with ⟨k,_⟩ | ⟨k,c',e',z⟩
   ·have k':X.env.scope.names.lookup y=some .local:=k;rcases j3 with q | q<;>(rw[q] at k';cases k')
   ·rw[h2 y c hc] at e';cases e';refine .inr ⟨?_,c,hc,?_⟩
    ·exact ja1 (env:=X.env) j4
    ·obtain⟨o,ho,hd⟩:=z;exact⟨o,hk c o ho,hd⟩
 ·obtain⟨v,o,ho,hd⟩:=I.cell y c (h2 y c e);exact⟨v,o,hk c o ho,hd⟩
 ·show (List.replicate xs0.length none++jaD σ ix).length=N'.length;rw[S.eq,xad,xad,xaN,S.ixs.len];unfold jaD;rw[xaa]
theorem jic {N' r:List Str} {ix:List Nat} {xs0:List Str} {cs:Scope} {cl:List (Str × Addr)} {tg iter elt:Expr} {ifs:List Expr} {pos:Pos} {J:It} {fp:List Addr} {it:Addr} {tn:Nat->Heap->Prop} {g:TG} {tt:TT} {te:TE} {Z:Addr->Hp->Prop}
    {RR:Value->Addr->Result->Shared->Prop} {E:Value->Shared->Prop}
    (I:Inv X pins σ H s) (hc:X.calm=true) (S:CompScopeM X.N X.env.scope N' ix xs0 r cs) (h2:∀y c,cl.lookup y=some c->X.env.cells.lookup y=some c) (h3:∀y,(y,NameKind.free)∈cs.names->∃c,cl.lookup y=some c)
    (T:Turn X.prog X.w X.K tg J fp it tn) (st:tn 0 s.heap) (hf:∀b∈fp,jeW X pins H b)
    (hg:∀s3 H3,PG (jbu X N' cs cl s3 H3 fp) tg g) (ht:∀s3 H3,PTs (jbu X N' cs cl s3 H3 fp) ifs tt) (he:∀s3 H3,PE (jbu X N' cs cl s3 H3 fp) elt te)
    (go:∀acc,H acc=none->jbS J xs0.length (jaD σ ix) g tt te acc (Z acc) H)
    (fin:∀acc C s' H' m,Inv X pins σ H' s'->jeW X pins H' C->s'.heap.Ns C m->Z acc H'->RR (.ref acc) C (.ok .next) s') :
    wpAny (model X.prog X.w) X.A (newList []) (fun acc s₃=>wpAny (model X.prog X.w) X.A (newFunctionEnv cs X.env.globals cl [] X.env.qual none .none (some X.env)) (fun cenv s₄ =>
      codeAny (model X.prog X.w) X.A (.compStart (.ListComp elt [⟨tg,iter,ifs,0⟩] cs pos) 0 (.ref it) acc { cenv with scope:=relabel cs X.env }) (RR acc cenv.locals) s₄) E s₃) E s:=by
  refine wpAny_newObj_type (wpAny_newFunctionEnv S.hcell (by intro y hy;simp at hy) (fun h₁ hns₁ hsb₁=>?_) S.kind);dsimp only at hns₁ hsb₁ |-
  have hfs:∀b∈fp,b<s.heap.objs.size:=fun b hb=>by
    obtain⟨o,e,_⟩:=T.obj _ _ st b hb;exact Heap.lt_size e
  have I3:Inv X pins σ (upd H s.heap.objs.size (.lst [])) { s with heap:=s.heap.push { cls:=.type "list",data:=.seq ([]:List Value).toArray } }:=I.lnew (its:=[]) (t':=s.toks) .nil (xaG _);have nacc:H s.heap.objs.size=none:=I.fresh;have hf3:∀b∈fp,jeW X pins (upd H s.heap.objs.size (.lst [])) b:=fun b hb=>⟨by rw[jaC (xan (hfs b hb))];exact (hf b hb).1,(hf b hb).2⟩;have hfs3:∀b∈fp,b<(s.heap.push { cls:=.type "list",data:=.seq ([]:List Value).toArray }).objs.size:=fun b hb=>by
    rw[Heap.size_push];exact xa4 (hfs b hb)
  generalize hs3:({ s with heap:=s.heap.push { cls:=.type "list",data:=.seq ([]:List Value).toArray } }:Shared)=s3 at I3;generalize hH3:upd H s.heap.objs.size (.lst [])=H3 at I3 hf3;have eh:s.heap.push { cls:=.type "list",data:=.seq ([]:List Value).toArray }=s3.heap:=by rw[<- hs3]
  rw[eh] at hns₁ hsb₁ hfs3;have kp:∀b o,s3.heap.get? b=some o->h₁.get? b=some o:=fun b o e=>hsb₁.extBut b o (xan (Heap.lt_size e)) (Heap.get?_push_of_some _ e);have I4:Inv (jbu X N' cs cl s3 H3 fp) [] (List.replicate xs0.length none++jaD σ ix) H3 { s3 with heap:=h₁,toks:=s3.toks+([]:List (Str × Value)).length } :=
    I3.compStartM S h2 h3 hf3 hfs3 hns₁ kp
  have kp2:∀b o,s.heap.get? b=some o->h₁.get? b=some o:=fun b o e=>kp b o (by rw[<- eh];exact Heap.get?_push_of_some _ e);have st4:tn 0 h₁:=T.keep _ _ _ st fun b hb o e=>kp2 b o e;obtain⟨W,⟨m0,w0⟩,turn⟩:=go s.heap.objs.size nacc;rw[hH3] at w0;have stat:∀{H':Hp},(∀b∈fp,H' b=none)->∀b∈fp,jeW (jbu X N' cs cl s3 H3 fp) [] H' b:=fun hn b hb =>
    ⟨hn b hb,xan (hfs3 b hb),fun hs=>by
      rcases xap.mp (I.stkSub b hs) with z | z
      . exact (hf b hb).2.1 z
      . exact (hf b hb).2.2.1 z,.inl hb,fun y c e=>(hf b hb).2.2.2.2.1 y c (h2 y c e),fun p hp=>absurd (show p∈([]:List (Addr × Obj)) from hp) (by simp)⟩
  have es:s3.heap.objs.size=s.heap.objs.size+1:=by rw[<- eh,Heap.size_push]
  have loop:codeAny (model X.prog X.w) X.A (.compLoop (.ListComp elt [⟨tg,iter,ifs,0⟩] cs pos) 0 (.ref it) (.ref s.heap.objs.size) (jbu X N' cs cl s3 H3 fp).env)
      (RR (.ref s.heap.objs.size) s3.heap.objs.size) { s3 with heap:=h₁,toks:=s3.toks+([]:List (Str × Value)).length }:=by
    refine jdZ (fun n s'=>∃i v0 H' xs,v0.length=xs0.length/\Inv (jbu X N' cs cl s3 H3 fp) [] (v0++jaD σ ix) H' s'/\tn i s'.heap/\(∀b∈fp,H' b=none)/\W i n xs H') ?_ m0
      ⟨0,List.replicate xs0.length none,H3,[],xaN,I4,st4,fun b hb=>(hf3 b hb).1,w0⟩
    rintro n s5 ⟨i,v0,H5,xs,l5,I5,st5,fr5,w5⟩;rcases turn i n xs H5 w5 with ⟨stop,q⟩ | ⟨hgo,Nx,Nn,hNx,hNn,step⟩
    . refine thn (T.done (jbu X N' cs cl s3 H3 fp) rfl rfl rfl hc i [] s5 _ H5 _ I5 (stat fr5) st5 stop) fun r' s6 ⟨hr,I6⟩=>?_
      subst hr;have u:Un (frs X.stack) fp H H5 s.heap s6.heap:=by
        refine Un.trans (H1:=H3) (h1:=s3.heap) ?_ I6.base;rw[<- hH3,<- eh];exact Un.laid (fun _ _ q=>Heap.get?_push_of_some _ q) (xae _) nacc
      have e3:s3.os=s.os:=by rw[<- hs3]
      have os6:s6.os=s.os:=I6.os.trans e3;have J6:Inv X pins σ H5 s6:=I.call' os6 u I6.hok I6.bare fun b hb=>⟨(hf b hb).2.2.2.1,(hf b hb).2.1,(hf b hb).2.2.2.2.1,(hf b hb).2.2.2.2.2⟩;obtain⟨m6,n6,_⟩:=I6.loc;exact fin _ _ s6 H5 m6 J6 (I.fpOk (by rw[es];exact xbP _) I6.free) n6 q
    . refine thn (T.item (jbu X N' cs cl s3 H3 fp) rfl rfl rfl hc i [] s5 _ H5 _ I5 (stat fr5) st5 hgo) fun r' s6 ⟨u,hr,h6⟩=>?_
      subst hr;refine thn h6 fun _ s7 ⟨y,H7,I7,r7,y7,st7,fr7⟩=>?_;have I7':=I7.pinned (stat fr7) (T.obj _ _ st7);refine wpAny_mono (hg s3 H3 _ s7 _ H7 y u _ I7' r7 (step v0 y H7 l5 y7)) (fun _ s8 ⟨σ8,H8,I8,⟨v8,l8,e8⟩,q8⟩=>?_) fun _ _ z=>z.elim;subst e8;have back:∀{s9:Shared} {H9:Hp} {m':Nat} {xs':List V},Inv (jbu X N' cs cl s3 H3 fp) ([]++jeX fp s7.heap) (v8++jaD σ ix) H9 s9->m'<n->W (i+1) m' xs' H9 ->
          ∃m,m<n/\∃i v0 H' xs,v0.length=xs0.length/\Inv (jbu X N' cs cl s3 H3 fp) [] (v0++jaD σ ix) H' s9/\tn i s9.heap/\(∀b∈fp,H' b=none)/\W i m xs H':=fun {s9 H9 m' xs'} I9 hm w9 =>
        ⟨m',hm,i+1,v8,H9,xs',l8,I9.unpinned,T.keep _ _ _ st7 fun b hb o e=>(I9.pin (b,o) (xak _ (xak _ (jbO hb e)))).1,fun b hb=>by
          obtain⟨o,e,d⟩:=T.obj _ _ st7 b hb;exact (I9.pin (b,o) (xak _ (xak _ (jbO hb e)))).2.1,w9⟩
      refine thn (ht s3 H3 _ _ s8 _ H8 _ (fun _ _ z=>z.elim) I8 q8) fun b s9 ⟨H9,I9,q9⟩=>?_;cases b with
      | false =>
        rw[if_neg xar] at q9 |-
        obtain⟨m',hm,w9⟩:=hNn H9 q9;exact back I9 hm w9
      | true =>
        rw[if_pos rfl] at q9 |-
        refine wpAny_mono (he s3 H3 _ s9 _ H9 _ I9 q9) (fun u2 s10 ⟨y2,H10,I10,r10,q10⟩=>?_) fun _ _ z=>z.elim;obtain⟨a10,z10,m',hm,w10⟩:=hNx y2 H10 q10;refine wpAny_mono (jbe (X:=jbu X N' cs cl s3 H3 fp) _ s10 _ H10 (.ref s.heap.objs.size) [y2] (.ref s.heap.objs.size) [u2] (fun _ H'=>H'=upd H10 s.heap.objs.size (.lst (xs++[y2]))) I10 rfl (.cons r10 .nil) ⟨_,xs,y2,rfl,rfl,a10,z10,rfl⟩) (fun _ s11 ⟨_,H11,I11,_,e11⟩=>?_) fun _ _ z=>z.elim;subst e11;exact back I11 hm w10
  subst hs3;exact codeAny_compStart_list loop (T.self X.A 0 _ _ _ st4 loop)
end
section
variable {X:Cx} {N' r xs0:List Str} {ix:List Nat} {cs:Scope} {tg iter elt:Expr} {ifs:List Expr} {pos:Pos} {wi:TI} {g:TG} {tt:TT} {te:TE}
def jhd (wi:TI) (ix:List Nat) (n:Nat) (g:TG) (tt:TT) (te:TE):TE:=fun σ H Q=>wi σ H fun J H1=>∀acc,H1 acc=none->jbS J n (jaD σ ix) g tt te acc (fun H'=>Q (.ref acc) H') H1
theorem CompScopeM.clos {sc:Scope} {N:List Str} (S:CompScopeM N sc N' ix xs0 r cs) {env:Env} (he:env.scope=sc) (has:∀y,(env.kindOf y=some .cell\/env.kindOf y=some .free)->∃c,env.cells.lookup y=some c) :
  ∃cl:List (Str × Addr),closureFor cs env=pure cl/\(∀y c,cl.lookup y=some c->env.cells.lookup y=some c)/\(∀y,(y,NameKind.free)∈cs.names->∃c,cl.lookup y=some c) :=
 jc2 fun y hy hk=>has y.1 (by
  subst he;exact S.fr y hy hk)
end
section
variable {K:PySem.W.Frag} {ta:TA} {tl:TE} {ix:List Nat} {n:Nat} {g:TG} {tt:TT} {te:TE} {σ:St} {H:Hp} {Q:VK}
theorem jhe:jhd (jkP K tl) ix n g tt te σ H Q=tl σ H fun x H1=>∃a,x=.ref a/\(∃xs,SqL K H1 a xs)/\∀acc,H1 acc=none->jbS (Itl K a) n (jaD σ ix) g tt te acc (fun H'=>Q (.ref acc) H') H1:=rfl
end
theorem jcm {X:Cx}:CallR X (.type "tuple") (fun xs H Q=>∃p ys,xs=[.ref p]/\SqL X.K H p ys/\∀l,H l=none->Q (.ref l) (upd H l (.tup ys))):=fun pins s σ H xs us Q I r ⟨p,ys,e,k,q⟩=>jbt pins s σ H xs us Q I r ⟨p,ys,e,.inl ⟨k,q⟩⟩
theorem jdl {X:Cx} {K:PySem.W.Frag} {es:List Expr} {k:Nat} {t:TGs} {n:Nat} {pos:Pos} (hK:X.K=K) (hc:X.calm=true) (h:PGs X es t)
  (hn:(assignEach es X.env).length=n:=by rfl) (hst:(assignEach es X.env).findIdx? (·.1)=none:=by rfl):PG X (.Tuple es k pos) (jkI K n t):=hK▸jdt hc h hn hst
def SameB (L:Addr) (H H':Hp):Prop:=∀b o,b≠L->H b=some o->H' b=some o
theorem SameB.refl (L:Addr) (H:Hp):SameB L H H:=fun _ _ _ h=>h
theorem SameB.trans {L:Addr} {H H' J:Hp} (s:SameB L H H') (t:SameB L H' J):SameB L H J:=fun b o n h=>t b o n (s b o n h)
theorem Same.b {L:Addr} {H H':Hp} (s:Same H H'):SameB L H H':=fun b o _ h=>s b o h
theorem SameB.acc {L acc:Addr} {H H':Hp} {o:HO} (s:SameB L H H') (h:H acc=none):SameB L H (upd H' acc o):=fun b u n q=>by rw[jaC (jax q h)];exact s b u n q
theorem SameB.none {L b:Addr} {H H':Hp} (s:SameB L H H') (n:b≠L) (h:H' b=none):H b=none:=by
 cases e:H b with
 | none=>rfl
 | some o=>rw[s b o n e] at h;cases h
theorem SameB.set {L:Addr} {H:Hp} {o:HO}:SameB L H (upd H L o):=fun b u n h=>by rw[jaC n];exact h
end L2
namespace L2
open PySem PyProof.Rows PySem.Calls
end L2
namespace L2
open PySem PySem.Spec PyProof.Rows
section
variable {X:Cx} {tg:Expr}
def It3 (lo c:Int) (n:Nat):It:=⟨fun i _=>i<n,fun i H x H'=>H'=H/\x=.int (lo+i*c),fun i _=>n<=i⟩
def iRng3 (ta:TA):TI:=fun σ H R=>ta σ H fun vs H1=>∃i j c:Int,vs=[.int i,.int j,.int c]/\(-(2^30)<=i/\i<2^30/\-(2^30)<=j/\j<2^30/\1<=c/\c<2^30)/\R (It3 i c (Builtin.Range.rangeSize i j c).toNat) H1
end
end L2
namespace L2
section
variable {K:PySem.W.Frag} {tl:TE} {ta:TA} {ix:List Nat} {g:TG} {tt:TT} {te:TE} {σ:St} {H:Hp} {Q:VK}
theorem jhf:jf7 (iRng3 ta) ix g tt te σ H Q=ta σ H fun vs H1=>∃i j c:Int,vs=[.int i,.int j,.int c]/\(-(2^30)<=i/\i<2^30/\-(2^30)<=j/\j<2^30/\1<=c/\c<2^30)/\∀acc,H1 acc=none->CompGo (It3 i c (PySem.Builtin.Range.rangeSize i j c).toNat) (jaD σ ix) g tt te acc (fun H'=>Q (.ref acc) H') H1:=rfl
end
end L2
namespace L2
open PySem PySem.Spec PyProof.Rows
theorem jfu {M:Model} {A:Around} {E:Value->Shared->Prop} {s:Shared} {scope:Scope} {globals:Addr} {cl:List (Str × Addr)} {qual:Str} {env:Env} {Q:Env->Shared->Prop}
  (hQ:Q (newEnv scope s.heap.objs.size globals (cellsFrom (s.heap.objs.size+1) scope.names cl) qual none .none (some env) builtinsNs) { s with heap:=pushCells (s.heap.push { cls:=.type "dict",data:=.dict #[] }) scope.names }) :
  wpAny M A (newFunctionEnv scope globals cl [] qual none .none (some env)) Q E s:=by
 simp only[newFunctionEnv,Option.isSome_some,if_true];refine wpAny_bind (wpAny_alloc ?_);refine wpAny_bind (wpAny_layCells _ (fun name kind cells=>by cases hkc:kind==NameKind.cell<;>simp [hkc]) _ _ _ _ ?_);rw[show ({ s with heap:=s.heap.push { cls:=.type "dict",data:=.dict #[] } }:Shared).heap.objs.size=s.heap.objs.size+1 from Heap.size_push ..];rw[List.forIn_nil];exact wpAny_bind (wpAny_pure (wpAny_pure hQ))
structure CfOk (n:Nat) (cs:List (Str × Addr)):Prop where
 lt:∀y c,cs.lookup y=some c->c<n
 inj:∀x y c,cs.lookup x=some c->cs.lookup y=some c->x=y
theorem jnb {n:Nat} {name:Str} {acc:List (Str × Addr)} (k:CfOk n acc):CfOk (n+1) ((name,n)::acc):=by
  refine⟨fun y c e=>?_,fun x y c e1 e2=>?_⟩
  . rw[xaS] at e
    cases z:y==name with
    | true=>rw[z] at e;cases e;exact xcg _
    | false=>rw[z] at e;exact xa4 (k.lt y c e)
  . rw[xaS] at e1 e2
    cases z1:x==name with
    | true =>
      cases z2:y==name with
      | true=>exact (beq_iff_eq.mp z1).trans (beq_iff_eq.mp z2).symm
      | false =>
        rw[z1] at e1;rw[z2] at e2;cases e1;exact absurd (k.lt y _ e2) (xbh _)
    | false =>
      cases z2:y==name with
      | true =>
        rw[z1] at e1;rw[z2] at e2;cases e2;exact absurd (k.lt x _ e1) (xbh _)
      | false =>
        rw[z1] at e1;rw[z2] at e2;exact k.inj x y c e1 e2
theorem jnc:∀(names:List (Str × NameKind)) (h:Heap) (acc:List (Str × Addr)),CfOk h.objs.size acc->CfOk (pushCells h names).objs.size (cellsFrom h.objs.size names acc)
  | [],_,_,k=>k
  | (name, kind) :: r, h, acc, k => by
    unfold pushCells cellsFrom;split
    . have z:=jnc r (h.push { cls:=.type "cell",data:=.cell none }) ((name,h.objs.size)::acc) (by rw[Heap.size_push]; exact jnb k)
      rwa [Heap.size_push] at z
    . exact jnc r h acc k
theorem jgJ:∀(names:List (Str × NameKind)) (h:Heap) (acc:List (Str × Addr)) (y:Str) (c:Addr),(cellsFrom h.objs.size names acc).lookup y=some c ->
    acc.lookup y=some c\/((y,NameKind.cell)∈names/\h.objs.size<=c/\(pushCells h names).IsCell c none)
  | [],_,_,_,_,e=>.inl e
  | (name, kind) :: r, h, acc, y, c, e => by
    unfold pushCells;unfold cellsFrom at e;by_cases hk:(kind==NameKind.cell)=true
    . rw[if_pos hk] at e |-
      rw[<- Heap.size_push (h:=h) (o:={ cls:=.type "cell",data:=.cell none })] at e;rcases jgJ r _ _ y c e with z | ⟨z1,z2,z3⟩
      . rw[xaS] at z
        cases q:y==name with
        | true =>
          rw[q] at z;cases z;have e1:=beq_iff_eq.mp q;have e2:=beq_iff_eq.mp hk;subst e1;subst e2;refine .inr ⟨xba,xae _,⟨_,pushCells_keeps r _ _ _ (Heap.get?_push_size _ rfl),rfl⟩⟩
        | false =>
          rw[q] at z;exact .inl z
      . rw[Heap.size_push] at z2
        exact .inr ⟨xas _ z1,by omega,z3⟩
    . rw[if_neg hk] at e |-
      rcases jgJ r h acc y c e with z | ⟨z1,z2,z3⟩
      . exact .inl z
      . exact .inr ⟨xas _ z1,z2,z3⟩
theorem jga:∀(names:List (Str × NameKind)) (n:Nat) (acc:List (Str × Addr)) (y:Str),(y,NameKind.cell)∉names->(cellsFrom n names acc).lookup y=acc.lookup y
  | [],_,_,_,_=>rfl
  | (name, kind) :: r, n, acc, y, hn => by
    unfold cellsFrom;have hr:(y,NameKind.cell)∉r:=fun z=>hn (xas _ z);by_cases hk:(kind==NameKind.cell)=true
    . rw[if_pos hk,jga r _ _ y hr,xaS]
      cases q:y==name with
      | true =>
        have e1:=beq_iff_eq.mp q;have e2:=beq_iff_eq.mp hk;subst e1;subst e2;exact absurd xba hn
      | false=>rfl
    . rw[if_neg hk,jga r _ _ y hr]
theorem jgb:∀(names:List (Str × NameKind)) (n:Nat) (acc:List (Str × Addr)) (y:Str),(y,NameKind.cell)∈names->∃c,(cellsFrom n names acc).lookup y=some c/\n<=c
  | (name, kind) :: r, n, acc, y, hy => by
    unfold cellsFrom;by_cases hr:(y,NameKind.cell)∈r
    . by_cases hk:(kind==NameKind.cell)=true
      . rw[if_pos hk]
        obtain⟨c,h1,h2⟩:=jgb r (n+1) ((name,n)::acc) y hr;exact⟨c,h1,by omega⟩
      . rw[if_neg hk]
        exact jgb r n acc y hr
    . rcases xap.mp hy with z | z
      . cases z
        rw[if_pos (by rfl),jga r _ _ _ hr,xaS];exact⟨n,by rw[beq_self_eq_true],xae _⟩
      . exact absurd z hr
theorem jnd {names:List (Str × NameKind)} {n:Nat} {acc:List (Str × Addr)} {y:Str} (h:∃c,acc.lookup y=some c):∃c,(cellsFrom n names acc).lookup y=some c:=by
 by_cases hy:(y,NameKind.cell)∈names
 ·obtain⟨c,h1,_⟩:=jgb names n acc y hy;exact⟨c,h1⟩
 ·rw[jga names n acc y hy];exact h
structure CompScopeC (N:List Str) (sc:Scope) (N':List Str) (ix:List Nat) (x:Str) (r:List Str) (cs:Scope):Prop where
 eq:N'=x::r
 kind:cs.kind=.function
 hown:∀y∈cs.names,y.2=.cell->cs.names.lookup y.1=some .cell
 hnames:∀y∈cs.names,y.2=.local->cs.names.lookup y.1=some .local
 nd:(x::r).Nodup
 fr:∀y∈cs.names,y.2=.free->sc.names.lookup y.1=some .cell\/sc.names.lookup y.1=some .free
 ixs:Ixs N sc cs r ix
def jaS (X:Cx) (N':List Str) (cs:Scope) (cl:List (Str × Addr)) (s3:Shared) (H3:Hp) (fp:List Addr):Cx :=
 { X with N:=N',s₀:=s3,H₀:=H3,env:=compEnvC cs (cellsFrom (s3.heap.objs.size+1) cs.names cl) s3.heap.objs.size X.env,outer:=X.stack,stack:=X.stack,ex:=fp,fn:=fun y=>cs.names.lookup y==some .cell,pn:=[],xe:=fun _ _=>False }
theorem jdw {env:Env} {cs:Scope} {y:Str} {k:NameKind} (h:(relabel cs env).names.lookup y=some k) (hk:k=.cell\/k=.free):(y,NameKind.free)∈cs.names\/(y,NameKind.cell)∈cs.names:=by
 have m:=PySem.mem_of_lookup h;obtain⟨⟨n,k0⟩,h1,h2⟩:=xax.mp m;by_cases c:(k0==NameKind.free&&env.scope.kind==.function&&env.kindOf n==some .cell)=true
 ·have h2':(n,NameKind.cell)=(y,k):=by rw[<- h2];exact (if_pos c).symm
  cases h2';have:k0=.free:=by
   have z:=(xbE.mp (xbE.mp c).1).1;exact beq_iff_eq.mp z
  rw[this] at h1;exact .inl h1
 ·have h2':(n,k0)=(y,k):=by rw[<- h2];exact (if_neg c).symm
  cases h2';rcases hk with rfl | rfl
  ·exact .inr h1
  ·exact .inl h1
section
variable {X:Cx} {pins:List (Addr × Obj)} {σ:St} {H:Hp} {s:Shared}
theorem Inv.cfs {cs:Scope} {cl:List (Str × Addr)} (I:Inv X pins σ H s) (h2:∀y c,cl.lookup y=some c->X.env.cells.lookup y=some c) :
  CfOk (pushCells (s.heap.push { cls:=.type "dict",data:=.dict #[] }) cs.names).objs.size (cellsFrom (s.heap.objs.size+1) cs.names cl) /\
  ∀y c,(cellsFrom (s.heap.objs.size+1) cs.names cl).lookup y=some c->X.env.cells.lookup y=some c\/((y,NameKind.cell)∈cs.names/\s.heap.objs.size+1<=c/\(pushCells (s.heap.push { cls:=.type "dict",data:=.dict #[] }) cs.names).IsCell c none):=by
 have e:s.heap.objs.size+1=(s.heap.push { cls:=.type "dict",data:=.dict #[] }).objs.size:=(Heap.size_push ..).symm;rw[e];refine⟨jnc _ _ _ ⟨fun y c q=>?_,fun a b c ha hb=>I.ok.inj a b c (h2 a c ha) (h2 b c hb)⟩,fun y c q=>?_⟩
 ·obtain⟨v,o,ho,_⟩:=I.cell y c (h2 y c q);rw[<- e];exact xa4 (Heap.lt_size ho)
 ·rcases jgJ _ _ _ y c q with z | z
  ·exact .inl (h2 y c z)
  ·exact .inr z
end
section
variable {X:Cx} {N' r:List Str} {ix:List Nat} {x:Str} {cs:Scope} {tg iter elt:Expr} {ifs:List Expr} {pos:Pos} {wi:TI} {g:TG} {tt:TT} {te:TE}
theorem CompScopeC.clos {sc:Scope} {N:List Str} (S:CompScopeC N sc N' ix x r cs) {env:Env} (he:env.scope=sc) (has:∀y,(env.kindOf y=some .cell\/env.kindOf y=some .free)->∃c,env.cells.lookup y=some c) :
  ∃cl:List (Str × Addr),closureFor cs env=pure cl/\(∀y c,cl.lookup y=some c->env.cells.lookup y=some c)/\(∀y,(y,NameKind.free)∈cs.names->∃c,cl.lookup y=some c) :=
 jc2 fun y hy hk=>has y.1 (by
  subst he;exact S.fr y hy hk)
end
end L2
namespace L2
open PySem PyProof.Rows
end L2
namespace L2
open PySem PySem.Spec PyProof.Rows
def Ite (K:PySem.W.Frag) (a:Addr):It :=
 ⟨fun i H=>∃xs x,SqL K H a xs/\xs[i]?=some x,fun i H x H'=>∃T v,x=.ref T/\H T=none/\H'=upd H T (.tup [.int i,v])/\∀xs,SqL K H a xs->xs[i]?=some v,fun i H=>∃xs,SqL K H a xs/\xs.length<=i⟩
section
variable {X:Cx} {elts:List Expr} {x1:Nat} {tpos:Pos}
def iEnum (K:PySem.W.Frag) (ta:TA):TI:=fun σ H R=>ta σ H fun vs H1=>∃a,vs=[.ref a]/\(∃xs,SqL K H1 a xs)/\R (Ite K a) H1
end
section
variable {K:PySem.W.Frag} {ta:TA} {tl:TE} {g:TG} {tb:TS} {D:Ends} {σ:St} {H:Hp}
theorem jmc:jm0 (iEnum K ta) g tb D σ H=ta σ H fun vs H1=>∃a,vs=[.ref a]/\(∃xs,SqL K H1 a xs)/\jou (Ite K a) g tb D σ H1:=rfl
end
section
variable {X:Cx} {N' r xs0:List Str} {ix:List Nat} {cs:Scope} {tg iter elt:Expr} {ifs:List Expr} {pos:Pos} {wi:TI} {g:TG} {tt:TT} {te:TE}
theorem jgK {i:Nat} {y:Str} {py spos:Pos} (hc:X.calm=true) (hN:X.N.Nodup) (hiN:X.N[i]?=some y) (hy:X.env.scope.names.lookup y=some .local) (S:CompScopeM X.N X.env.scope N' ix xs0 r cs) (hi:PI X tg iter wi)
  (hg:∀cl s3 H3 fp,PG (jbu X N' cs cl s3 H3 fp) tg g) (ht:∀cl s3 H3 fp,PTs (jbu X N' cs cl s3 H3 fp) ifs tt) (he:∀cl s3 H3 fp,PE (jbu X N' cs cl s3 H3 fp) elt te)
  (hsw:swapsWith (.ListComp elt [⟨tg,iter,ifs,0⟩] cs pos) (some (.Name y py)) spos.line X.env=pure true:=by rfl)
  (hs:∀x,foldedSetIterable iter X.env x=pure x:=by intro _;rfl):PS X (.Assign [.Name y py] (.ListComp elt [⟨tg,iter,ifs,0⟩] cs pos) spos) (jkO (jhd wi ix xs0.length g tt te) (jbA i)):=by
 intro pins s σ H D I h;obtain⟨cl,c1,c2,c3⟩:=S.clos rfl I.ok.has;rw[exec_Assign_Name_used _ _ _ _ hsw];refine wpAny_bind (wpAny_standAt (wpAny_bind ?_));show wpAny _ X.A (do let _ <- comprehension (.ListComp elt [⟨tg,iter,ifs,0⟩] cs pos) cs X.env _ (newList []) false (eval iter X.env) (some (assign (.Name y py) X.env))) _ _ s;refine wpAny_bind (wpAny_mono (wpAny_comprehension_free (use:=some (assign (.Name y py) X.env)) (Q:=fun _ s'=>SP X pins D .next s') rfl hs c1 S.kind S.hnames
  (thn (hi pins s σ H _ I h) fun v s1 h1=>thn h1 fun itv s2 h2=>?_)) (fun _ s' hq=>wpAny_pure (wpAny_pure hq)) fun _ _ e=>e)
 obtain⟨it,fp,tn,J,H2,e,I2,T,st2,f2,R⟩:=h2;subst e;refine jic (RR:=fun acc C=>compPost (model X.prog X.w) X.A X.xe (some (assign (.Name y py) X.env)) (fun _ s'=>SP X pins D .next s') acc C) I2 hc S c2 c3 T st2 f2 (fun s3 H3=>hg cl s3 H3 fp) (fun s3 H3=>ht cl s3 H3 fp) (fun s3 H3=>he cl s3 H3 fp) R ?_;intro acc C s' H' m I' fC hn q;show wpAny _ X.A (assign (.Name y py) X.env (.ref acc)) _ _ _;refine wpAny_assign_Name (jei (v:=.ref acc) I' hN hiN (.inl hy) rfl (fun s'' I'' ⟨a,hb,ha⟩=>?_) (.inr hy));have hCa:C≠a:=fun z=>by
  rcases ha with ha | ha
  ·exact fC.2.1 (z.trans ha)
  ·exact fC.2.2.2.2.1 y a ha z.symm
 refine⟨m,hn.sameBut hb hCa,fun h' hb'=>⟨_,H',?_,q⟩⟩;exact I''.turned (t':=s''.toks) (fun b o hne e=>(hb'.2 b hne).trans e) fC.1 fC.2.1 fC.2.2.2.1 fC.2.2.2.2.1 fC.2.2.2.2.2
end
section
variable {P:Program} {w:World} {H:Hp} {h h':Heap} {a:Addr} {o:HO}
theorem ObjOk.get (x:ObjOk P w H h a o):∃ob,h.get? a=some ob:=by
 cases o with
 | lst xs=>obtain⟨_,_,_,_,e⟩:=x;exact⟨_,e⟩
 | tup xs=>obtain⟨_,_,_,ob,e,_⟩:=x;exact⟨_,e⟩
 | dK kvs=>obtain⟨_,_,_,_,o,_,_,e,_⟩:=x;exact⟨_,e⟩
 | dT kvs=>obtain⟨_,_,_,_,o,_,_,e,_⟩:=x;exact⟨_,e⟩
 | set S n=>obtain⟨o,_,_,_,e,_⟩:=x;exact⟨_,e⟩
 | ins C dx fs=>obtain⟨_,_,_,e,_⟩:=x;exact⟨_,e⟩
 | own y=>exact x
 | xd fs=>obtain⟨_,⟨_,_,_,e,_⟩,_⟩:=x;exact⟨_,e⟩
 | rng lo hi=>obtain⟨_,_,_,e⟩:=x;exact⟨_,e⟩
 | frz ob u=>obtain⟨e,_⟩:=x;exact⟨_,e⟩
 | tbl ps=>exact⟨_,(show h.get? a=some _ from x)⟩
 | met f y=>exact⟨_,(show h.get? a=some _ from x)⟩
 | ext φ=>obtain⟨_,e,_⟩:=x;exact e
end
section
open PySem.W PySem.Calls PySem.Builtin PySem.Builtin.ObjectAttr
variable {prog:Program} {w:World} {A:Around} {K:PySem.W.Frag} {x C:Addr} {ox:Obj} {od:Option Obj} {s:Shared} {name:Str} {tk:Tok} {v:Value} {R:Result->Shared->Prop}
end
section
open PySem.W PySem.Calls PySem.Builtin PySem.Builtin.ObjectAttr PySem.Builtin.Getset_descriptor
variable {prog:Program} {w:World} {A:Around} {E:Value->Shared->Prop} {K:PySem.W.Frag} {x C:Addr} {s:Shared} {name:Str} {tk:Tok} {v:Value}
end
@[elab_as_elim] theorem jeP {C:Hp->Prop} {H:Hp} {p:Addr} {o:HO} (hp:H p=none) (k:∀J,Same H J->J p=some o->C J):C (upd H p o):=k _ (Same.new hp o) jaf
section
variable {prog:Program} {w:World} {A:Around} {E:Value->Shared->Prop} {it:Addr} {fp wr:List Addr} {n:Nat} {P:Nat->Value->Prop} {St:Nat->Heap->Prop}
theorem drawW (W:Walks prog w A it fp wr n P St) (k:Nat):∀(i:Nat) (s:Shared) (Q:List Value->Shared->Prop),i+k<=n->St i s.heap ->
    (∀vs h tk,vs.length=k->(∀j v,vs[j]?=some v->P (i+j) v)->St (i+k) h->(∀b o,b∉wr->s.heap.get? b=some o->h.get? b=some o)->Q vs { s with heap:=h,toks:=tk })->wpAny (model prog w) A (draw (.ref it) k) Q E s:=by
  induction k with
  | zero=>exact fun i s Q _ st q=>wpAny_pure (q [] s.heap s.toks rfl (fun j v h=>by simp at h) st fun _ _ _ e=>e)
  | succ k ih =>
    intro i s Q le st q;refine wpAny_bind (W.item i s _ _ (by omega) st fun v h1 t1 pv st1 k1=>?_);refine wpAny_bind (wpAny_holding (ih (i+1) _ _ (by omega) st1 fun vs h2 t2 l2 p2 st2 k2=>wpAny_pure ?_));refine q (v::vs) h2 t2 (by simp [l2]) (fun j u hj=>?_) (by rw[show i+(k+1)=i+1+k by omega];exact st2) fun b o bw e=>k2 b o bw (k1 b o bw e);cases j with
    | zero=>cases hj;exact pv
    | succ j=>rw[show i+(j+1)=i+1+j by omega];exact p2 j u hj
theorem joW {s:Shared} {l:Addr} {xs:List Value} {Q:List Value->Shared->Prop} (hh:A.handled=none) (hl:s.heap.IsList l xs.toArray)
  (q:∀h tk,(∀b o,s.heap.get? b=some o->h.get? b=some o)->Q xs { s with heap:=h,toks:=tk }):wpAny (model prog w) A (unpackItems (.ref l) xs.length none) Q E s:=by
 have lt:l<s.heap.objs.size:=by obtain⟨o,ho,_⟩:=hl;exact Heap.lt_size ho
 have W:=Walks.list (prog:=prog) (w:=w) hh s.heap.objs.size l (xan lt) xs.toArray;have old:∀{b:Addr} {o:Obj},s.heap.get? b=some o->b∉[s.heap.objs.size]:=fun x m=>xan (Heap.lt_size x) (xam.mp m);unfold unpackItems notIterableAtAll;refine wpAny_bind (wpAny_bind (wpAny_specialOf hl.typeIs F.slot_list_iter.lookup (wpAny_pure ?_)));rw[if_neg (by decide)];refine wpAny_bind (wpAny_holding (wpAny_pyIter_list hl (wpAny_bind (wpAny_holding ?_))));refine drawW W xs.length 0 _ _ (by simp) ⟨⟨_,Heap.get?_push_size _ rfl,rfl,rfl⟩,hl.push _⟩ fun vs h1 t1 l1 p1 st1 k1=>?_;have ev:vs=xs:=by
  refine xbH fun j=>?_;by_cases c:j<vs.length
  ·have e:=p1 j vs[j] (xab c);rw[xab c,<- e];simp
  ·rw[xaF (by omega),xaF (by omega)]
 rw[if_neg (by omega)];refine wpAny_bind (wpAny_holding (W.done _ _ _ (by simpa using st1) fun h2 t2 k2=>?_));rw[if_neg (show ¬(none:Option Value).isSome=true by decide),ev];exact wpAny_pure (q h2 t2 fun b o x=>k2 b o (old x) (k1 b o (old x) (Heap.get?_push_of_some _ x)))
end
section
variable {X:Cx} {pos:Pos}
def gLst (K:PySem.W.Frag) (n:Nat) (t:TGs):TG:=fun v σ H Q=>∃a xs,v=.ref a/\SqL K H a xs/\xs.length=n/\t xs σ H Q
theorem joX {es:List Expr} {k:Nat} {t:TGs} {n:Nat} (hc:X.calm=true) (h:PGs X es t)
  (hn:(assignEach es X.env).length=n:=by rfl) (hst:(assignEach es X.env).findIdx? (·.1)=none:=by rfl):PG X (.Tuple es k pos) (gLst X.K n t):=by
 intro pins s σ H v u Q I r ⟨a,xs,e1,hq,hl,hw⟩;subst e1;cases r;obtain⟨its,rv,ht,hz⟩:=I.list hq;have len:(assignEach es X.env).length=its.length:=by rw[hn,<- hl,rv.length]
 rw[assign_Tuple];unfold unpack;rw[len,hst];exact wpAny_bind (wpAny_standAt (wpAny_bind (wpAny_holding (joW (I.ok.hd hc) ht.isList fun h' tk hx=>h pins _ σ H xs _ Q (I.kept hx) rv hw))))
end
section
open PySem.AutoSeq1 (wpAny_loadPart')
open PySem.MeetsSeq3 (plain_eq_loop entry_eq_loop)
end
structure CompScopeMC (N:List Str) (sc:Scope) (N':List Str) (ix:List Nat) (xs0:List Str) (r:List Str) (cs:Scope):Prop where
 eq:N'=xs0++r
 kind:cs.kind=.function
 hown:∀y∈cs.names,y.2=.cell->cs.names.lookup y.1=some .cell
 hnames:∀y∈cs.names,y.2=.local->cs.names.lookup y.1=some .local
 nd:(xs0++r).Nodup
 fr:∀y∈cs.names,y.2=.free->sc.names.lookup y.1=some .cell\/sc.names.lookup y.1=some .free
 ixs:Ixs N sc cs r ix
section
variable {X:Cx} {pins:List (Addr × Obj)} {σ:St} {H:Hp} {s:Shared}
theorem Inv.compOkMC {N' r:List Str} {ix:List Nat} {xs0:List Str} {cs:Scope} {cl:List (Str × Addr)} {fp:List Addr} (I:Inv X pins σ H s) (S:CompScopeMC X.N X.env.scope N' ix xs0 r cs)
  (h2:∀y c,cl.lookup y=some c->X.env.cells.lookup y=some c) (h3:∀y,(y,NameKind.free)∈cs.names->∃c,cl.lookup y=some c) (hf:∀b∈fp,jeW X pins H b) (hfp:∀b∈fp,b<s.heap.objs.size) :
  (jaS X N' cs cl s H fp).Ok where
 mod:=I.ok.mod
 kind:=S.kind
 glob:=I.ok.glob
 blt:=I.ok.blt
 above:=xae _
 inj:=(I.cfs (cs:=cs) h2).1.inj
 has:=fun y hy=>by
  rcases hy.elim (fun z=>jdw z (.inl rfl)) fun z=>jdw z (.inr rfl) with z | z
  ·exact jnd (h3 y z)
  ·obtain⟨c,h,_⟩:=jgb cs.names (s.heap.objs.size+1) cl y z;exact⟨c,h⟩
 cab:=fun y c hy e=>by
  have z:cs.names.lookup y=some .cell:=beq_iff_eq.mp hy;obtain⟨c',h,hl⟩:=jgb cs.names (s.heap.objs.size+1) cl y (PySem.mem_of_lookup z);have e':(cellsFrom (s.heap.objs.size+1) cs.names cl).lookup y=some c:=e;rw[h] at e';cases e';exact xaE (xbP _) hl
 hd:=I.ok.hd
 frames:=I.ok.frames
 stk:=.inl rfl
 exf:=fun b hb=>⟨xan (hfp b hb),fun y c e=>by
  rcases (I.cfs (cs:=cs) h2).2 y c e with z | ⟨_,z,_⟩
  ·exact (hf b hb).2.2.2.2.1 y c z
  ·exact xcd (xao (xa4 (hfp b hb)) z)⟩
 bs:=I.bs
 bsz:=xaE I.ok.bsz I.sz
 noex:=fun b o e hb=>by
  rcases (hf b hb).2.2.2.1 with z | z
  ·exact I.ok.noex b o e z
  ·exact absurd (xao (Heap.lt_size e) (xaE I.ok.bsz z)) (xbh _)
 exfs:=fun b hb hs=>by
  rcases xap.mp (I.stkSub b hs) with z | z
  ·exact (hf b hb).2.1 z
  ·exact (hf b hb).2.2.1 z
 funs:=I.stack
 frf:=I.stkFree
theorem Inv.compStartMC {N' r:List Str} {ix:List Nat} {xs0:List Str} {cs:Scope} {cl:List (Str × Addr)} {fp:List Addr} (I:Inv X pins σ H s) (S:CompScopeMC X.N X.env.scope N' ix xs0 r cs)
  (h2:∀y c,cl.lookup y=some c->X.env.cells.lookup y=some c) (h3:∀y,(y,NameKind.free)∈cs.names->∃c,cl.lookup y=some c) (hf:∀b∈fp,jeW X pins H b) (hfp:∀b∈fp,b<s.heap.objs.size) :
  Inv (jaS X N' cs cl s H fp) [] (List.replicate xs0.length none++jaD σ ix) H { s with heap:=pushCells (s.heap.push { cls:=.type "dict",data:=.dict #[] }) cs.names }:=by
 have ok:=I.compOkMC (N':=N') (fp:=fp) S h2 h3 hf hfp;obtain⟨mo,hno,hlo⟩:=id I.loc;have hk:∀b o,s.heap.get? b=some o->(pushCells (s.heap.push { cls:=.type "dict",data:=.dict #[] }) cs.names).get? b=some o:=fun b o e=>pushCells_keeps _ _ _ _ (Heap.get?_push_of_some _ e);have cf:=(I.cfs (cs:=cs) h2).2;refine⟨ok,rfl,I.bare,Un.kept hk,⟨fun _=>none,(Heap.Ns.new s.heap (.type "dict")).keeps (pushCells_keeps _ _),fun i y v e1 e2 e3=>?_⟩,fun y c e=>?_,I.hok.fresh (xae _),fun y c e=>?_,fun p hp=>absurd (show p∈([]:List (Addr × Obj)) from hp) (by simp),I.hok.kept hk,?_⟩
 ·by_cases hi:i<xs0.length
  ·rw[xaH (by rw[xaN];exact hi),xb3,if_pos hi] at e2;cases e2
  ·have e1':r[i-xs0.length]?=some y:=by
    have:N'[i]?=some y:=e1;rw[S.eq,xat (by omega)] at this;exact this
   have e2:(jaD σ ix)[i-xs0.length]?=some (some v):=by
    rw[xat (by rw[xaN];omega),xaN] at e2;exact e2
   obtain⟨j,j1,j2,j3,j4⟩:=S.ixs.get e1';obtain⟨j',k1,k2⟩:=jdj (σ:=σ) (ix:=ix) (i:=i-xs0.length) (v:=v) e2;rw[j1] at k1;cases k1;obtain⟨u,ru,lk⟩:=hlo j y v j2 k2 (j3.elim (fun z=>.inr (.inl z)) fun z=>.inr (.inr z));refine⟨u,ru,?_⟩;obtain⟨c,hc⟩:=h3 y (PySem.mem_of_lookup j4);rcases lk with ⟨k,_⟩ | ⟨k,c',e',z⟩
   ·have k':X.env.scope.names.lookup y=some .local:=k;rcases j3 with q | q<;>(rw[q] at k';cases k')
   ·rw[h2 y c hc] at e';cases e';refine .inr ⟨?_,c,?_,?_⟩
    ·exact ja1 (env:=X.env) j4
    ·have no:(y,NameKind.cell)∉cs.names:=fun q=>by
      have:=S.hown _ q rfl;rw[j4] at this;cases this
     show (cellsFrom (s.heap.objs.size+1) cs.names cl).lookup y=some c;rw[jga _ _ _ y no];exact hc
    ·obtain⟨o,ho,hd⟩:=z;exact⟨o,hk c o ho,hd⟩
 ·rcases cf y c e with z | ⟨_,_,z⟩
  ·obtain⟨v,o,ho,hd⟩:=I.cell y c z;exact⟨v,o,hk c o ho,hd⟩
  ·exact⟨none,z⟩
 ·rcases cf y c e with z | ⟨_,z,_⟩
  ·exact I.freeC y c z
  ·exact I.hok.fresh (xaE (xbP _) z)
 ·show (List.replicate xs0.length none++jaD σ ix).length=N'.length;rw[S.eq,xad,xad,xaN,S.ixs.len];unfold jaD;rw[xaa]
theorem jdm {N' r:List Str} {ix:List Nat} {xs0:List Str} {cs:Scope} {cl:List (Str × Addr)} {tg iter elt:Expr} {ifs:List Expr} {pos:Pos} {J:It} {fp:List Addr} {it:Addr} {tn:Nat->Heap->Prop} {g:TG} {tt:TT} {te:TE} {Z:Addr->Hp->Prop}
    {RR:Value->Addr->Result->Shared->Prop} {E:Value->Shared->Prop}
    (I:Inv X pins σ H s) (hc:X.calm=true) (S:CompScopeMC X.N X.env.scope N' ix xs0 r cs) (h2:∀y c,cl.lookup y=some c->X.env.cells.lookup y=some c) (h3:∀y,(y,NameKind.free)∈cs.names->∃c,cl.lookup y=some c)
    (T:Turn X.prog X.w X.K tg J fp it tn) (st:tn 0 s.heap) (hf:∀b∈fp,jeW X pins H b)
    (hg:∀s3 H3,PG (jaS X N' cs cl s3 H3 fp) tg g) (ht:∀s3 H3,PTs (jaS X N' cs cl s3 H3 fp) ifs tt) (he:∀s3 H3,PE (jaS X N' cs cl s3 H3 fp) elt te)
    (go:∀acc,H acc=none->jbS J xs0.length (jaD σ ix) g tt te acc (Z acc) H)
    (fin:∀acc C s' H' m,Inv X pins σ H' s'->jeW X pins H' C->s'.heap.Ns C m->Z acc H'->RR (.ref acc) C (.ok .next) s') :
    wpAny (model X.prog X.w) X.A (newList []) (fun acc s₃=>wpAny (model X.prog X.w) X.A (newFunctionEnv cs X.env.globals cl [] X.env.qual none .none (some X.env)) (fun cenv s₄ =>
      codeAny (model X.prog X.w) X.A (.compStart (.ListComp elt [⟨tg,iter,ifs,0⟩] cs pos) 0 (.ref it) acc { cenv with scope:=relabel cs X.env }) (RR acc cenv.locals) s₄) E s₃) E s:=by
  refine wpAny_newObj_type (jfu ?_);dsimp only;have hfs:∀b∈fp,b<s.heap.objs.size:=fun b hb=>by
    obtain⟨o,e,_⟩:=T.obj _ _ st b hb;exact Heap.lt_size e
  have I3:Inv X pins σ (upd H s.heap.objs.size (.lst [])) { s with heap:=s.heap.push { cls:=.type "list",data:=.seq ([]:List Value).toArray } }:=I.lnew (its:=[]) (t':=s.toks) .nil (xaG _);have nacc:H s.heap.objs.size=none:=I.fresh;have hf3:∀b∈fp,jeW X pins (upd H s.heap.objs.size (.lst [])) b:=fun b hb=>⟨by rw[jaC (xan (hfs b hb))];exact (hf b hb).1,(hf b hb).2⟩;have hfs3:∀b∈fp,b<(s.heap.push { cls:=.type "list",data:=.seq ([]:List Value).toArray }).objs.size:=fun b hb=>by
    rw[Heap.size_push];exact xa4 (hfs b hb)
  generalize hs3:({ s with heap:=s.heap.push { cls:=.type "list",data:=.seq ([]:List Value).toArray } }:Shared)=s3 at I3;generalize hH3:upd H s.heap.objs.size (.lst [])=H3 at I3 hf3;have eh:s.heap.push { cls:=.type "list",data:=.seq ([]:List Value).toArray }=s3.heap:=by rw[<- hs3]
  rw[eh] at hfs3;have I4:Inv (jaS X N' cs cl s3 H3 fp) [] (List.replicate xs0.length none++jaD σ ix) H3 { s3 with heap:=pushCells (s3.heap.push { cls:=.type "dict",data:=.dict #[] }) cs.names } :=
    I3.compStartMC S h2 h3 hf3 hfs3
  have cf:=(I3.cfs (cs:=cs) h2).2;have kp2:∀b o,s.heap.get? b=some o->(pushCells (s3.heap.push { cls:=.type "dict",data:=.dict #[] }) cs.names).get? b=some o:=fun b o e=>pushCells_keeps _ _ _ _ (Heap.get?_push_of_some _ (by rw[<- eh];exact Heap.get?_push_of_some _ e));have st4:tn 0 (pushCells (s3.heap.push { cls:=.type "dict",data:=.dict #[] }) cs.names):=T.keep _ _ _ st fun b hb o e=>kp2 b o e;obtain⟨W,⟨m0,w0⟩,turn⟩:=go s.heap.objs.size nacc;rw[hH3] at w0;have stat:∀{H':Hp},(∀b∈fp,H' b=none)->∀b∈fp,jeW (jaS X N' cs cl s3 H3 fp) [] H' b:=fun hn b hb =>
    ⟨hn b hb,xan (hfs3 b hb),fun hs=>by
      rcases xap.mp (I.stkSub b hs) with z | z
      . exact (hf b hb).2.1 z
      . exact (hf b hb).2.2.1 z,.inl hb,fun y c e=>by
        rcases cf y c e with z | ⟨_,z,_⟩
        . exact (hf b hb).2.2.2.2.1 y c z
        . exact xcd (xao (xa4 (hfs3 b hb)) z),fun p hp=>absurd (show p∈([]:List (Addr × Obj)) from hp) (by simp)⟩
  have es:s3.heap.objs.size=s.heap.objs.size+1:=by rw[<- eh,Heap.size_push]
  have loop:codeAny (model X.prog X.w) X.A (.compLoop (.ListComp elt [⟨tg,iter,ifs,0⟩] cs pos) 0 (.ref it) (.ref s.heap.objs.size) (jaS X N' cs cl s3 H3 fp).env)
      (RR (.ref s.heap.objs.size) s3.heap.objs.size) { s3 with heap:=pushCells (s3.heap.push { cls:=.type "dict",data:=.dict #[] }) cs.names }:=by
    refine jdZ (fun n s'=>∃i v0 H' xs,v0.length=xs0.length/\Inv (jaS X N' cs cl s3 H3 fp) [] (v0++jaD σ ix) H' s'/\tn i s'.heap/\(∀b∈fp,H' b=none)/\W i n xs H') ?_ m0
      ⟨0,List.replicate xs0.length none,H3,[],xaN,I4,st4,fun b hb=>(hf3 b hb).1,w0⟩
    rintro n s5 ⟨i,v0,H5,xs,l5,I5,st5,fr5,w5⟩;rcases turn i n xs H5 w5 with ⟨stop,q⟩ | ⟨hgo,Nx,Nn,hNx,hNn,step⟩
    . refine thn (T.done (jaS X N' cs cl s3 H3 fp) rfl rfl rfl hc i [] s5 _ H5 _ I5 (stat fr5) st5 stop) fun r' s6 ⟨hr,I6⟩=>?_
      subst hr;have u:Un (frs X.stack) fp H H5 s.heap s6.heap:=by
        refine Un.trans (H1:=H3) (h1:=s3.heap) ?_ I6.base;rw[<- hH3,<- eh];exact Un.laid (fun _ _ q=>Heap.get?_push_of_some _ q) (xae _) nacc
      have e3:s3.os=s.os:=by rw[<- hs3]
      have os6:s6.os=s.os:=I6.os.trans e3;have J6:Inv X pins σ H5 s6:=I.call' os6 u I6.hok I6.bare fun b hb=>⟨(hf b hb).2.2.2.1,(hf b hb).2.1,(hf b hb).2.2.2.2.1,(hf b hb).2.2.2.2.2⟩;obtain⟨m6,n6,_⟩:=I6.loc;exact fin _ _ s6 H5 m6 J6 (I.fpOk (by rw[es];exact xbP _) I6.free) n6 q
    . refine thn (T.item (jaS X N' cs cl s3 H3 fp) rfl rfl rfl hc i [] s5 _ H5 _ I5 (stat fr5) st5 hgo) fun r' s6 ⟨u,hr,h6⟩=>?_
      subst hr;refine thn h6 fun _ s7 ⟨y,H7,I7,r7,y7,st7,fr7⟩=>?_;have I7':=I7.pinned (stat fr7) (T.obj _ _ st7);refine wpAny_mono (hg s3 H3 _ s7 _ H7 y u _ I7' r7 (step v0 y H7 l5 y7)) (fun _ s8 ⟨σ8,H8,I8,⟨v8,l8,e8⟩,q8⟩=>?_) fun _ _ z=>z.elim;subst e8;have back:∀{s9:Shared} {H9:Hp} {m':Nat} {xs':List V},Inv (jaS X N' cs cl s3 H3 fp) ([]++jeX fp s7.heap) (v8++jaD σ ix) H9 s9->m'<n->W (i+1) m' xs' H9 ->
          ∃m,m<n/\∃i v0 H' xs,v0.length=xs0.length/\Inv (jaS X N' cs cl s3 H3 fp) [] (v0++jaD σ ix) H' s9/\tn i s9.heap/\(∀b∈fp,H' b=none)/\W i m xs H':=fun {s9 H9 m' xs'} I9 hm w9 =>
        ⟨m',hm,i+1,v8,H9,xs',l8,I9.unpinned,T.keep _ _ _ st7 fun b hb o e=>(I9.pin (b,o) (xak _ (xak _ (jbO hb e)))).1,fun b hb=>by
          obtain⟨o,e,d⟩:=T.obj _ _ st7 b hb;exact (I9.pin (b,o) (xak _ (xak _ (jbO hb e)))).2.1,w9⟩
      refine thn (ht s3 H3 _ _ s8 _ H8 _ (fun _ _ z=>z.elim) I8 q8) fun b s9 ⟨H9,I9,q9⟩=>?_;cases b with
      | false =>
        rw[if_neg xar] at q9 |-
        obtain⟨m',hm,w9⟩:=hNn H9 q9;exact back I9 hm w9
      | true =>
        rw[if_pos rfl] at q9 |-
        refine wpAny_mono (he s3 H3 _ s9 _ H9 _ I9 q9) (fun u2 s10 ⟨y2,H10,I10,r10,q10⟩=>?_) fun _ _ z=>z.elim;obtain⟨a10,z10,m',hm,w10⟩:=hNx y2 H10 q10;refine wpAny_mono (jbe (X:=jaS X N' cs cl s3 H3 fp) _ s10 _ H10 (.ref s.heap.objs.size) [y2] (.ref s.heap.objs.size) [u2] (fun _ H'=>H'=upd H10 s.heap.objs.size (.lst (xs++[y2]))) I10 rfl (.cons r10 .nil) ⟨_,xs,y2,rfl,rfl,a10,z10,rfl⟩) (fun _ s11 ⟨_,H11,I11,_,e11⟩=>?_) fun _ _ z=>z.elim;subst e11;exact back I11 hm w10
  subst hs3;exact codeAny_compStart_list loop (T.self X.A 0 _ _ _ st4 loop)
end
section
variable {X:Cx} {N' r xs0:List Str} {ix:List Nat} {cs:Scope} {tg iter elt:Expr} {ifs:List Expr} {pos:Pos} {wi:TI} {g:TG} {tt:TT} {te:TE}
theorem CompScopeMC.clos {sc:Scope} {N:List Str} (S:CompScopeMC N sc N' ix xs0 r cs) {env:Env} (he:env.scope=sc) (has:∀y,(env.kindOf y=some .cell\/env.kindOf y=some .free)->∃c,env.cells.lookup y=some c) :
  ∃cl:List (Str × Addr),closureFor cs env=pure cl/\(∀y c,cl.lookup y=some c->env.cells.lookup y=some c)/\(∀y,(y,NameKind.free)∈cs.names->∃c,cl.lookup y=some c) :=
 jc2 fun y hy hk=>has y.1 (by
  subst he;exact S.fr y hy hk)
theorem jcf (hc:X.calm=true) (S:CompScopeMC X.N X.env.scope N' ix xs0 r cs) (hi:PI X tg iter wi)
  (hg:∀cl s3 H3 fp,PG (jaS X N' cs cl s3 H3 fp) tg g) (ht:∀cl s3 H3 fp,PTs (jaS X N' cs cl s3 H3 fp) ifs tt) (he:∀cl s3 H3 fp,PE (jaS X N' cs cl s3 H3 fp) elt te)
  (hs:∀x,foldedSetIterable iter X.env x=pure x:=by intro _;rfl):PE X (.ListComp elt [⟨tg,iter,ifs,0⟩] cs pos) (jhd wi ix xs0.length g tt te):=by
 intro pins s σ H Q I h;obtain⟨cl,c1,c2,c3⟩:=S.clos rfl I.ok.has;rw[eval_ListComp];refine wpAny_comprehension_free (use:=none) rfl hs c1 S.kind S.hnames (thn (hi pins s σ H _ I h) fun v s1 h1=>thn h1 fun itv s2 h2=>?_);obtain⟨it,fp,tn,J,H2,e,I2,T,st2,f2,R⟩:=h2;subst e;refine jdm (RR:=fun acc C=>compPost (model X.prog X.w) X.A X.xe none (EP X pins σ Q) acc C) I2 hc S c2 c3 T st2 f2 (fun s3 H3=>hg cl s3 H3 fp) (fun s3 H3=>ht cl s3 H3 fp) (fun s3 H3=>he cl s3 H3 fp) R ?_;intro acc C s' H' m I' fC hn q;refine⟨m,hn,fun h' hb=>⟨.ref acc,H',?_,rfl,q⟩⟩;exact I'.turned (t':=s'.toks) (fun b o hne e=>(hb.2 b hne).trans e) fC.1 fC.2.1 fC.2.2.2.1 fC.2.2.2.2.1 fC.2.2.2.2.2
end
theorem CompScopeC.mc {N:List Str} {sc:Scope} {N':List Str} {ix:List Nat} {x:Str} {r:List Str} {cs:Scope} (S:CompScopeC N sc N' ix x r cs):CompScopeMC N sc N' ix [x] r cs:=⟨S.eq,S.kind,S.hown,S.hnames,S.nd,S.fr,S.ixs⟩
theorem CompGo.m1 {J:It} {ρ:St} {g:TG} {tt:TT} {te:TE} {acc:Addr} {Z:Hp->Prop} {H1:Hp} (h:CompGo J ρ g tt te acc Z H1):jbS J [("":Str)].length ρ g tt te acc Z H1:=by
 obtain⟨W,h0,hs⟩:=h;refine⟨W,h0,fun i m xs H w=>?_⟩;rcases hs i m xs H w with h | ⟨hg,Nx,Nn,h1,h2,step⟩
 ·exact .inl h
 ·refine .inr ⟨hg,Nx,Nn,h1,h2,fun v0 x H' l0 y=>?_⟩;obtain⟨a,rfl⟩:=List.length_eq_one_iff.mp l0;have e:(fun (σ2:St) (H2:Hp)=>(∃v,σ2=v::ρ)/\tt σ2 H2 fun b H3=>if b=true then te σ2 H3 Nx else Nn H3)=fun σ2 H2=>(∃v:St,v.length=[("":Str)].length/\σ2=v++ρ)/\tt σ2 H2 fun b H3=>if b=true then te σ2 H3 Nx else Nn H3:=by
   funext σ2 H2
   refine congrArg (·/\_) (propext ⟨fun ⟨v,e⟩=>⟨[v],rfl,e⟩,fun ⟨v,l,e⟩=>?_⟩);obtain⟨b,rfl⟩:=List.length_eq_one_iff.mp l;exact⟨b,e⟩
  have:=step a x H' y;rw[e] at this;exact this
section
variable {X:Cx} {N' r:List Str} {ix:List Nat} {x:Str} {cs:Scope} {tg iter elt:Expr} {ifs:List Expr} {pos:Pos} {wi:TI} {g:TG} {tt:TT} {te:TE}
theorem ja4 (hc:X.calm=true) (S:CompScopeC X.N X.env.scope N' ix x r cs) (hi:PI X tg iter wi)
  (hg:∀cl s3 H3 fp,PG (jaS X N' cs cl s3 H3 fp) tg g) (ht:∀cl s3 H3 fp,PTs (jaS X N' cs cl s3 H3 fp) ifs tt) (he:∀cl s3 H3 fp,PE (jaS X N' cs cl s3 H3 fp) elt te)
  (hs:∀x,foldedSetIterable iter X.env x=pure x:=by intro _;rfl):PE X (.ListComp elt [⟨tg,iter,ifs,0⟩] cs pos) (jf7 wi ix g tt te):=by
 intro pins s σ H Q I h;obtain⟨cl,c1,c2,c3⟩:=S.mc.clos rfl I.ok.has;rw[eval_ListComp];refine wpAny_comprehension_free (use:=none) rfl hs c1 S.kind S.hnames (thn (hi pins s σ H _ I h) fun v s1 h1=>thn h1 fun itv s2 h2=>?_);obtain⟨it,fp,tn,J,H2,e,I2,T,st2,f2,R⟩:=h2;subst e;refine jdm (RR:=fun acc C=>compPost (model X.prog X.w) X.A X.xe none (EP X pins σ Q) acc C) I2 hc S.mc c2 c3 T st2 f2 (fun s3 H3=>hg cl s3 H3 fp) (fun s3 H3=>ht cl s3 H3 fp) (fun s3 H3=>he cl s3 H3 fp) (fun acc h=>(R acc h).m1) ?_;intro acc C s' H' m I' fC hn q;refine⟨m,hn,fun h' hb=>⟨.ref acc,H',?_,rfl,q⟩⟩;exact I'.turned (t':=s'.toks) (fun b o hne e=>(hb.2 b hne).trans e) fC.1 fC.2.1 fC.2.2.2.1 fC.2.2.2.2.1 fC.2.2.2.2.2
theorem jbD {i:Nat} {y:Str} {py spos:Pos} (hc:X.calm=true) (hN:X.N.Nodup) (hiN:X.N[i]?=some y) (hy:X.env.scope.names.lookup y=some .local) (S:CompScopeC X.N X.env.scope N' ix x r cs) (hi:PI X tg iter wi)
  (hg:∀cl s3 H3 fp,PG (jaS X N' cs cl s3 H3 fp) tg g) (ht:∀cl s3 H3 fp,PTs (jaS X N' cs cl s3 H3 fp) ifs tt) (he:∀cl s3 H3 fp,PE (jaS X N' cs cl s3 H3 fp) elt te)
  (hsw:swapsWith (.ListComp elt [⟨tg,iter,ifs,0⟩] cs pos) (some (.Name y py)) spos.line X.env=pure true:=by rfl)
  (hs:∀x,foldedSetIterable iter X.env x=pure x:=by intro _;rfl):PS X (.Assign [.Name y py] (.ListComp elt [⟨tg,iter,ifs,0⟩] cs pos) spos) (jkO (jf7 wi ix g tt te) (jbA i)):=by
 intro pins s σ H D I h;obtain⟨cl,c1,c2,c3⟩:=S.mc.clos rfl I.ok.has;rw[exec_Assign_Name_used _ _ _ _ hsw];refine wpAny_bind (wpAny_standAt (wpAny_bind ?_));show wpAny _ X.A (do let _ <- comprehension (.ListComp elt [⟨tg,iter,ifs,0⟩] cs pos) cs X.env _ (newList []) false (eval iter X.env) (some (assign (.Name y py) X.env))) _ _ s;refine wpAny_bind (wpAny_mono (wpAny_comprehension_free (use:=some (assign (.Name y py) X.env)) (Q:=fun _ s'=>SP X pins D .next s') rfl hs c1 S.kind S.hnames
  (thn (hi pins s σ H _ I h) fun v s1 h1=>thn h1 fun itv s2 h2=>?_)) (fun _ s' hq=>wpAny_pure (wpAny_pure hq)) fun _ _ e=>e)
 obtain⟨it,fp,tn,J,H2,e,I2,T,st2,f2,R⟩:=h2;subst e;refine jdm (RR:=fun acc C=>compPost (model X.prog X.w) X.A X.xe (some (assign (.Name y py) X.env)) (fun _ s'=>SP X pins D .next s') acc C) I2 hc S.mc c2 c3 T st2 f2 (fun s3 H3=>hg cl s3 H3 fp) (fun s3 H3=>ht cl s3 H3 fp) (fun s3 H3=>he cl s3 H3 fp) (fun acc h=>(R acc h).m1) ?_;intro acc C s' H' m I' fC hn q;show wpAny _ X.A (assign (.Name y py) X.env (.ref acc)) _ _ _;refine wpAny_assign_Name (jei (v:=.ref acc) I' hN hiN (.inl hy) rfl (fun s'' I'' ⟨a,hb,ha⟩=>?_) (.inr hy));have hCa:C≠a:=fun z=>by
  rcases ha with ha | ha
  ·exact fC.2.1 (z.trans ha)
  ·exact fC.2.2.2.2.1 y a ha z.symm
 refine⟨m,hn.sameBut hb hCa,fun h' hb'=>⟨_,H',?_,q⟩⟩;exact I''.turned (t':=s''.toks) (fun b o hne e=>(hb'.2 b hne).trans e) fC.1 fC.2.1 fC.2.2.2.1 fC.2.2.2.2.1 fC.2.2.2.2.2
end
section
open PySem.AutoSeq1 (wpAny_loadPart')
open PySem.MeetsSeq3 (plain_eq_loop entry_eq_loop)
end
section
variable {X:Cx}
def rCatE (K:PySem.W.Frag):R2:=fun x y H Q=>∃a b xs ys,x=.ref a/\y=.ref b/\SqT K H a xs/\SqT K H b ys/\ys≠[]/\xs.length+ys.length<=sizeLine /\
 (xs=[]->Q (.ref b) H)/\(xs≠[]->∀p,H p=none->Q (.ref p) (upd H p (.tup (xs++ys))))
theorem jne:OpR X (binaryOp .Add) (rCatE X.K):=by
 intro pins s σ H x y v u Q I rx ry h;obtain⟨a,b,xs,ys,rfl,rfl,ha,hb,hy,hz,q1,q2⟩:=h;by_cases hx:xs=[]
 ·cases rx;cases ry;obtain⟨its,r1,p1,_⟩:=I.tuple ha;obtain⟨its2,r2,p2,_⟩:=I.tuple hb;have e0:its=[]:=r1.nil_iff.mpr hx;obtain⟨⟨cls,dd,data,sl⟩,ho,hc,n,hd⟩:=id p1;obtain⟨⟨cls2,dd2,data2,sl2⟩,ho2,hc2,n2,hd2⟩:=id p2;simp only at hc hd hc2 hd2;subst hc hd hc2 hd2;exact concat_meets ⟨_,ho,rfl⟩ ⟨_,ho2,rfl⟩ noFill_tuple_add seq_tuple_add PySem.F.slot_tuple_add PySem.F.entry_tuple_add (PySem.F.args_tuple_add_2 _ _)
   (tuple_addW0 a b its.toArray its2.toArray n n2 dd dd2 sl sl2 (by simp [e0])) ⟨ho,ho2,⟨.ref b,H,I,rfl,q1 hx⟩⟩
 ·exact jiV pins s σ H _ _ v u Q I rx ry ⟨a,b,xs,ys,rfl,rfl,ha,hb,hx,hz,fun z=>absurd z hy,fun _=>q2 hx⟩
def gOr (g1 g2:TG):TG:=fun v σ H Q=>g1 v σ H Q\/g2 v σ H Q
theorem pg_or {tg:Expr} {g1 g2:TG} (h1:PG X tg g1) (h2:PG X tg g2):PG X tg (gOr g1 g2):=by
 intro pins s σ H v u Q I r h;rcases h with h | h
 ·exact h1 pins s σ H v u Q I r h
 ·exact h2 pins s σ H v u Q I r h
end
end L2
namespace HT
open PySem PyProof.Rows
section
variable {prog:Program} {w:World} {A:Around} {E:Value->Shared->Prop} {s:Shared}
theorem getItem_tuple_all {t sl:Addr} {items:Array Value} {vl vu:Value} {lo hi:Option Int} {Q:Value->Shared->Prop} (ht:IsTup s.heap t items) (hs:s.heap.IsSliceOf sl vl vu .none) (pl:IsPart vl lo) (pu:IsPart vu hi)
  (hw:sIx items.size 0 lo=0/\sIx items.size items.size hi=items.size)
  (h:Q (.ref t) s)
  (hsz:items.size<=sizeLine):wpAny (model prog w) A (getItem (.ref t) (.ref sl)) Q E s:=by
 have hj:sIx items.size items.size hi<=items.size:=jl4 _ _ (xae _) hi;obtain⟨os,hos,hcs,hds⟩:=id hs;have hTs:s.TypeIs (.ref sl) "slice":=⟨os,hos,hcs⟩;unfold getItem;try with_reducible refine wpAny_holding ?_
 first | refine wpAny_bind (wpAny_pure ?_) | skip
 refine wpAny_bind (wpAny_sequenceKey ht.typeIs (by decide) ?_);refine wpAny_bind (wpAny_callSpecial?_slot (name:=Str.ofString "__getitem__") ht.typeIs PyProof.Rows.slot_tuple_getitem
  (wpAny_call_entry PyProof.Rows.slot_tuple_getitem ht.typeIs entry_tuple_getitem ?_ (args_tuple_getitem _ _)))
 show wpAny _ _ (Builtin.Tuple.tupleItemsOf (.ref t) >>= _) _ _ s;refine wpAny_bind (tupleItemsOf_ ht ?_);refine wpAny_bind (wpAny_typeOf hTs ?_);rw[if_pos (by decide)];refine wpAny_bind (jcw hs pl pu ?_);have hyes:((((sIx items.size 0 lo:Nat):Int)==0&&(1:Int)==1&&(sIx items.size items.size hi-sIx items.size 0 lo)==items.size)=true):=by
  rw[hw.1,hw.2,Nat.sub_zero];simp
 show wpAny _ _ (if (((sIx items.size 0 lo:Nat):Int)==0&&(1:Int)==1&&(sIx items.size items.size hi-sIx items.size 0 lo)==items.size)=true then _ else _) _ _ s;rw[if_pos hyes];unfold Builtin.Tuple.tupleIsExact;refine wpAny_bind (wpAny_bind (wpAny_typeOf ht.typeIs (wpAny_pure ?_)));rw[if_pos (by decide)]
 repeat (first | exact⟨_,rfl,wpAny_pure h⟩ | wp_step)
end
end HT
namespace L2
open PySem PySem.Spec PyProof.Rows
section
variable {X:Cx}
def joY (K:PySem.W.Frag):V->Option Int->Option Int->Hp->VK->Prop:=fun x lo hi H Q=>∃a xs,x=.ref a/\SqT K H a xs/\(HT.sIx xs.length 0 lo=0/\HT.sIx xs.length xs.length hi=xs.length)/\Q (.ref a) H
theorem jnf:SlR X (joY X.K):=by
 intro pins s σ H x v vl vu lo hi sl Q I rx hs pl pu h;obtain⟨a,xs,rfl,hx,hw,q⟩:=h;cases rx;obtain⟨its,r,ht,hz⟩:=I.tuple hx;have hlen:its.toArray.size=xs.length:=by rw[xai];exact r.length.symm
 refine⟨"tuple",_,PyProof.Rows.slot_tuple_getitem.lookup,ht.typeIs,?_⟩;exact HT.getItem_tuple_all ht hs pl pu (by rw[hlen];exact hw) ⟨.ref a,H,I,rfl,q⟩ (by rw[hlen];exact hz)
theorem joZ:SlR X (fun x l u H Q=>(rSlL X.K x l u H Q\/rSlT X.K x l u H Q)\/joY X.K x l u H Q):=(sl_list.or jl5).or jnf
end
section
variable {κ:Type} [DecidableEq κ]
def jeb (kvs:List (κ × V)) (k:κ):Option V:=(kvs.find? fun kv=>decide (kv.1=k)).map (·.2)
def jgC (kvs:List (κ × V)) (k:κ) (v:V):List (κ × V) :=
 if (kvs.any fun kv=>decide (kv.1=k))=true then kvs.map (fun kv=>if kv.1=k then (kv.1,v) else kv) else kvs++[(k,v)]
def jo0 (kvs:List (κ × V)) (k:κ):List (κ × V):=kvs.filter fun kv=>decide (kv.1≠k)
theorem jbv {p:κ × V} {r:List (κ × V)} {k:κ} (e:p.1=k):jeb (p::r) k=some p.2:=by simp [jeb,xci,e]
theorem jbm {p:κ × V} {r:List (κ × V)} {k:κ} (e:¬p.1=k):jeb (p::r) k=jeb r k:=by simp [jeb,xci,e]
theorem jee (k:κ):∀kvs:List (κ × V),(kvs.any fun kv=>decide (kv.1=k))=(jeb kvs k).isSome
  | []=>rfl
  | p :: r => by
    rw[xch];by_cases e:p.1=k
    . simp only[jbv e,decide_eq_true e,Bool.true_or,Option.isSome_some]
    . rw[jbm e,decide_eq_false e,Bool.false_or];exact jee k r
theorem jhg (k j:κ) (y:V):∀kvs:List (κ × V),jeb (kvs.map fun kv=>if kv.1=k then (kv.1,y) else kv) j=(jeb kvs j).map fun x=>if j=k then y else x
  | []=>rfl
  | p :: r => by
    have ih:=jhg k j y r;rw[xay];by_cases h:p.1=k
    . rw[if_pos h]
      by_cases e:p.1=j
      . rw[jbv (p:=(p.1,y)) e,jbv e,xcj,if_pos (e.symm.trans h)]
      . rw[jbm (p:=(p.1,y)) e,jbm e,ih]
    . rw[if_neg h]
      by_cases e:p.1=j
      . rw[jbv (p:=p) e,jbv e,xcj,if_neg (fun z=>h (e.trans z))]
      . rw[jbm (p:=p) e,jbm e,ih]
theorem jes (k j:κ) (y:V):∀kvs:List (κ × V),jeb kvs k=none->jeb (kvs++[(k,y)]) j=if j=k then some y else jeb kvs j
  | [], _ => by
    by_cases e:k=j
    . rw[if_pos e.symm];exact jbv (p:=(k,y)) e
    . rw[if_neg (fun z=>e z.symm)];exact jbm (p:=(k,y)) e
  | p :: r, hn => by
    rw[List.cons_append];have hk:¬p.1=k:=fun z=>by rw[jbv z] at hn;cases hn
    rw[jbm hk] at hn;have ih:=jes k j y r hn;by_cases e:p.1=j
    . rw[jbv e,jbv e,if_neg (fun z=>hk (e.trans z))]
    . rw[jbm e,jbm e,ih]
theorem jk7 (kvs:List (κ × V)) (k j:κ) (y:V):jeb (jgC kvs k y) j=if j=k then some y else jeb kvs j:=by
 unfold jgC;by_cases a:(kvs.any fun kv=>decide (kv.1=k))=true
 ·rw[if_pos a,jhg];rw[jee] at a;by_cases e:j=k
  ·obtain⟨x,hx⟩:=Option.isSome_iff_exists.mp a;rw[if_pos e,e,hx,xcj,if_pos rfl]
  ·rw[if_neg e];cases jeb kvs j with
   | none=>rfl
   | some x=>rw[xcj,if_neg e]
 ·rw[if_neg a];refine jes k j y kvs ?_;rw[jee] at a;cases q:jeb kvs k with
  | none=>rfl
  | some x=>rw[q] at a;exact (a rfl).elim
theorem jdn (kvs:List (κ × V)) (k:κ) (v:V):(jgC kvs k v).length<=kvs.length+1:=by
 unfold jgC;split
 ·rw[xaa];omega
 ·rw[xad,xaw,List.length_nil];omega
theorem jhh {kvs:List (κ × V)} {k:κ} (v:V) (h:jeb kvs k=none):jgC kvs k v=kvs++[(k,v)]:=by
 unfold jgC;rw[jee,h];exact if_neg (by decide)
theorem RelO.getD {o:Option V} {u:Option Value} {d:V} {d':Value} (r:RelO o u) (rd:RelV d d'):RelV (o.getD d) (u.getD d'):=by
  cases o with
  | none => cases u with
    | none=>exact rd
    | some _=>exact (show False from r).elim
  | some _ => cases u with
    | none=>exact (show False from r).elim
    | some _=>exact r
theorem KV.val {kvs:List (κ × V)} {vs:List (κ × Value)} (r:KV kvs vs) (k:κ):RelO (jeb kvs k) (valueAt vs k):=by
  unfold KV at r;induction r with
  | nil=>exact True.intro
  | @cons p q ps qs h t ih =>
    obtain⟨h1,h2⟩:=h;by_cases e:p.1=k
    . have e':q.1=k:=h1.symm.trans e
      have b:valueAt (q::qs) k=some q.2:=by simp [valueAt,xci,e']
      rw[jbv e,b];exact h2
    . have e':¬q.1=k:=fun z=>e (h1.trans z)
      have b:valueAt (q::qs) k=valueAt qs k:=by simp [valueAt,xci,e']
      rw[jbm e,b];exact ih
theorem KV.any {kvs:List (κ × V)} {vs:List (κ × Value)} (r:KV kvs vs) (k:κ):(kvs.any fun kv=>decide (kv.1=k))=vs.any fun kv=>decide (kv.1=k):=by
 unfold KV at r;induction r with
 | nil=>rfl
 | cons h t ih=>rw[xch,xch,ih,h.1]
theorem KV.repl {kvs:List (κ × V)} {vs:List (κ × Value)} (r:KV kvs vs) (k:κ) {y:V} {u:Value} (ry:RelV y u) :
    KV (kvs.map fun kv=>if kv.1=k then (kv.1,y) else kv) (vs.map fun kv=>if kv.1=k then (kv.1,u) else kv):=by
  unfold KV at r |-
  induction r with
  | nil=>exact .nil
  | @cons p q ps qs h t ih =>
    rw[xay,xay];refine .cons ?_ ih;obtain⟨h1,h2⟩:=h;by_cases e:p.1=k
    . rw[if_pos e,if_pos (h1.symm.trans e)];exact⟨h1,ry⟩
    . rw[if_neg e,if_neg (fun z=>e (h1.trans z))];exact⟨h1,h2⟩
theorem KV.put {kvs:List (κ × V)} {vs:List (κ × Value)} (r:KV kvs vs) (k:κ) {y:V} {u:Value} (ry:RelV y u):KV (jgC kvs k y) (stored vs k u):=by
 unfold jgC stored;rw[r.any k];by_cases e:(vs.any fun kv=>decide (kv.1=k))=true
 ·rw[if_pos e,if_pos e];exact r.repl k ry
 ·rw[if_neg e,if_neg e];exact Paired.snoc r ⟨rfl,ry⟩
theorem KV.drop {kvs:List (κ × V)} {vs:List (κ × Value)} (r:KV kvs vs) (k:κ):KV (jo0 kvs k) (without vs k):=by
  unfold KV at r |-
  unfold jo0 without;induction r with
  | nil=>exact .nil
  | @cons p q ps qs h t ih =>
    obtain⟨h1,h2⟩:=h;rw[xaX,xaX];by_cases e:p.1=k
    . have a:¬decide (p.1≠k)=true:=by simp [e]
      have b:¬decide (q.1≠k)=true:=by simp [h1.symm.trans e]
      rw[if_neg a,if_neg b];exact ih
    . have e':¬q.1=k:=fun z=>e (h1.trans z)
      have a:decide (p.1≠k)=true:=by simp [e]
      have b:decide (q.1≠k)=true:=by simp [e']
      rw[if_pos a,if_pos b];exact .cons ⟨h1,h2⟩ ih
theorem KV.keys {kvs:List (κ × V)} {vs:List (κ × Value)} (r:KV kvs vs):kvs.map (·.1)=vs.map (·.1):=by
 unfold KV at r;induction r with
 | nil=>rfl
 | cons h t ih=>rw[xay,xay,ih,h.1]
theorem KV.length {kvs:List (κ × V)} {vs:List (κ × Value)} (r:KV kvs vs):kvs.length=vs.length:=Paired.length r
end
theorem jng {P:Program} {w:World} {k:Key} {u:Value} (r:RelV (kV k) u):(jbn P w).is k u=true:=by
 cases k with
 | inl i=>obtain⟨t,e⟩:=(show ∃t,u=Value.int i t from r);subst e;exact jgD P w i t
 | inr x=>obtain⟨t,e⟩:=(show ∃t,u=Value.str x t from r);subst e;exact jgE P w x t
theorem jcg:entryFor table "dict.update.loop"=some Builtin.«dict.update.loop»:=entryFor_of_tree (id (Eq.refl (entriesT.find (code "dict.update.loop"))))
theorem jba:plainId "dict.update.loop"=true:=by decide +kernel
def jhi (P:Program) (w:World) (h:Heap) (v:Value) (q:Key × Value):Prop:=∃(a:Addr) (o:Obj) (u:Value) (n:Nat),v=.ref a/\h.get? a=some o/\o.cls=.type "tuple"/\o.data=.seq #[u,q.2] n/\(jbn P w).is q.1 u=true
theorem jdN {prog:Program} {w:World} {A:Around} {R:Result->Shared->Prop} {I l S:Addr} {items:Array Value} (hh:A.in1.handled=none) (lI:l≠I) (SI:S≠I) (Sl:S≠l) (hz:items.size<=sizeLine) (res:Value):∀(k i:Nat) (s:Shared) (kvs qs:List (Key × Value)) (z:Int) (tok:Tok),items.size-i=k->i<=items.size->s.heap.IsListIter I l i->s.heap.IsList l items->s.heap.DictOf (jbn prog w) S kvs->kvs.length<=i->qs.length=items.size-i->(∀(j:Nat) (v:Value),items[i+j]?=some v->v≠.ref S/\v≠.ref I/\∃q,qs[j]?=some q/\jhi prog w s.heap v q) ->
    (∀(h':Heap) (tk:Nat),(∀b o,b≠S->b≠I->s.heap.get? b=some o->h'.get? b=some o)->h'.DictOf (jbn prog w) S (qs.foldl (fun acc q=>stored acc q.1 q.2) kvs)->R (.ok (.ret res)) { s with heap:=h',toks:=tk }) ->
    codeAny (model prog w) A (.builtin "dict.update.loop" { pos:=[.ref S,.ref I,.int z tok,res] }) R s:=by
  intro k;have W:=Walks.list (prog:=prog) (w:=w) (A:=A.in1) hh I l lI items;induction k with
  | zero =>
    intro i s kvs qs z tok hk hi hI hl hS hn hq hp q;obtain rfl:i=items.size:=by omega
    obtain rfl:qs=[]:=xa5.mp (by omega);refine codeAny_builtin jcg ?_;rw[Around.under_plainId jba];unfold Builtin.«dict.update.loop»;refine wpAny_bind (W.done s _ _ ⟨hI,hl⟩ fun h' tk hm=>?_);show wpAny _ _ (Builtin.Dict.addKeywords S [] >>= fun _=>ret res) _ _ _;unfold Builtin.Dict.addKeywords;refine wpAny_bind (wpAny_bind ?_);rw[List.forIn_nil];exact wpAny_pure (wpAny_pure (wpAny_pure (q h' tk (fun b o _ hb e=>hm b o (by simpa using hb) e) (let ⟨o,es,ep,h1,r⟩:=hS;⟨o,es,ep,hm S o (by simpa using SI) h1,r⟩))))
  | succ k ih =>
    intro i s kvs qs z tok hk hi hI hl hS hn hq hp q;refine codeAny_builtin jcg ?_;rw[Around.under_plainId jba];unfold Builtin.«dict.update.loop»;refine wpAny_bind (W.item i s _ _ (by omega) ⟨hI,hl⟩ fun v h' tk hv hst hm=>?_);obtain⟨vS,vI,q1,hq1,a,o,u,n,rfl,ho,hc,hd,hk'⟩:=hp 0 v hv;obtain⟨qs',rfl⟩:∃qs',qs=q1::qs':=by
      cases qs with
      | nil=>cases hq1
      | cons x xs=>cases hq1;exact⟨xs,rfl⟩
    have hS':h'.DictOf (jbn prog w) S kvs:=let ⟨o,es,ep,h1,r⟩:=hS;⟨o,es,ep,hm S o (by simpa using SI) h1,r⟩;have ha':h'.get? a=some o:=hm a o (by simpa using fun z=>vI (by rw[z])) ho;obtain⟨hst1,hst2⟩:=hst;refine wpAny_bind (wpAny_holding (wpAny_bind (wpAny_tryCatch ?_)));unfold Builtin.Dict.pairItems;refine wpAny_bind (wpAny_typeOf (T:="tuple") ⟨o,ha',hc⟩ ?_);rw[if_pos (by decide)];refine wpAny_bind (wpAny_seqItems ha' hd (wpAny_pure ?_));show wpAny _ _ (holding [u,q1.2] (dictSet S u q1.2)) _ _ _;refine wpAny_holding (wpAny_dictSet_pairs hk' hS' (fun h2 d2 sb=>?_) (by omega));have lst:=stored_length_le kvs q1.1 q1.2;rw[xaw] at hq;have k2:∀b o,b≠S->b≠I->s.heap.get? b=some o->h2.get? b=some o:=fun b o h1 h2' e=>(sb.2 b h1).trans (hm b o (by simpa using h2') e);refine wpAny_pure ⟨plainId_quiet jba _,ih (i+1) { s with heap:=h2,toks:=tk+1 } (stored kvs q1.1 q1.2) qs' (z+1) _ (by omega) (by omega) ?_ ?_ d2 (by omega) (by omega) (fun j v hj=>?_) (fun h3 tk3 k3 d3=>?_)⟩
    . obtain⟨o',e1,e2⟩:=hst1
      exact⟨o',(sb.2 I (Ne.symm SI)).trans e1,e2⟩
    . obtain⟨o',e1,e2⟩:=hst2
      exact⟨o',(sb.2 l (Ne.symm Sl)).trans e1,e2⟩
    . obtain⟨h1,h2',q2,e1,a2,o2,u2,n2,rfl,p2,p3,p4,p5⟩:=hp (j+1) v (by rw[show i+(j+1)=i+1+j by omega]; exact hj)
      exact⟨h1,h2',q2,e1,a2,o2,u2,n2,rfl,k2 _ _ (fun z=>h1 (by rw[z])) (fun z=>h2' (by rw[z])) p2,p3,p4,p5⟩
    . exact q h3 tk3 (fun b o h1 h2' e=>k3 b o h1 h2' (k2 b o h1 h2' e)) d3
theorem jid {prog:Program} {w:World} {A:Around} {E:Value->Shared->Prop} {s:Shared} {a:Addr} {o:Obj} {xs:Array Value} {n:Nat} {Q:Option Value->Shared->Prop} (ho:s.heap.get? a=some o) (hc:o.cls=.type "list") (hd:o.data=.seq xs n) (hn:o.dict=none) (hA:A.handled=none) (h:∀(h':Heap) (tk:Nat),(∀b u,s.heap.get? b=some u->h'.get? b=some u)->Q none { s with heap:=h',toks:=tk }):wpAny (model prog w) A (getAttr? (.ref a) "keys") Q E s:=by
 obtain⟨c,dct,dat,sl⟩:=o;subst hc hd hn;have hT:∀x,Shared.TypeIs { s with toks:=x } (.ref a) "list":=fun x=>⟨_,ho,rfl⟩;have f3:=F.slot_list_getattribute.lookup;have f4:=F.slot_list_getattribute.bind (.ref a);unfold getAttr?;refine wpAny_bind ?_;unfold mkText;refine wpAny_bind (wpAny_fresh' (wpAny_pure ?_));unfold getAttrBy?;refine wpAny_bind (wpAny_attempt ?_);unfold getAttrBy;refine wpAny_holding (wpAny_bind (wpAny_typeOf (T:="list") (hT _) ?_));refine wpAny_bind (wpAny_of_eq f3 ?_);refine wpAny_ite_false rfl ?_;unfold getAttrByItsOwn hookBefore;refine wpAny_bind (wpAny_ite_false rfl (wpAny_pure ?_));refine wpAny_bind (wpAny_attempt (wpAny_holding ?_));unfold callGetattribute;refine wpAny_ite_false rfl ?_;unfold boundAndCalled;refine wpAny_bind (wpAny_of_eq f4 ?_);refine call_meets F.slot_list_getattribute (hT _) am_entry_list_getattribute (F.args_list_getattribute_2 _ _) (meets_getattribute_miss_list a xs n sl "keys" _ rfl rfl) ⟨ho,hA,fun h' tk e hx=>?_⟩;obtain⟨t,u,he⟩:=hx.there;have hE:Shared.TypeIs { s with heap:=h',toks:=tk } (.ref e) "AttributeError":=⟨_,he,rfl⟩;show wpAny _ _ (getattributeRaised _ _ _ _ _ _ _) _ _ _;unfold getattributeRaised;refine wpAny_bind (wpAny_isInstance hE sub_AttributeError ?_);rw[if_pos rfl];unfold hookBehind;refine wpAny_bind (wpAny_ite_false rfl (wpAny_of_eq am_list_getattr_none ?_));unfold hookOrError attributeErrorLeaves;dsimp only;rw[if_pos (by decide)];refine wpAny_bind (wpAny_throw ?_);refine wpAny_bind (wpAny_isInstance hE sub_AttributeError ?_);rw[if_pos rfl];exact wpAny_pure (h h' tk hx.keeps)
theorem jie {prog:Program} {w:World} {A:Around} {R:Result->Shared->Prop} {s:Shared} {l S:Addr} {o:Obj} {items:Array Value} {n:Nat} {qs:List (Key × Value)} (hh:A.handled=none) (hS:s.heap.DictOf (jbn prog w) S []) (ho:s.heap.get? l=some o) (hc:o.cls=.type "list") (hd:o.data=.seq items n) (hn:o.dict=none) (Sl:S≠l) (hz:items.size<=sizeLine) (hq:qs.length=items.size) (hp:∀(j:Nat) (v:Value),items[j]?=some v->v≠.ref S/\∃q,qs[j]?=some q/\jhi prog w s.heap v q)
  (q:∀(h':Heap) (tk:Nat),(∀b o,b≠S->s.heap.get? b=some o->h'.get? b=some o)->h'.DictOf (jbn prog w) S (qs.foldl (fun acc q=>stored acc q.1 q.2) [])->R (.ok (.ret .none)) { s with heap:=h',toks:=tk }) :
  wpAny (model prog w) A.in1 (Builtin.«dict.__init__» { pos:=[.ref S,.ref l] })
   (fun fin s'=>match fin with | .done f=>R (.ok f) s' | .again c'=>c'.quiet=true/\codeAny (model prog w) A c' R s') (fun e s'=>R (.error e) s') s:=by
 unfold Builtin.«dict.__init__»;refine wpAny_bind ?_;unfold Builtin.Dict.selfAndRest;refine wpAny_bind (wpAny_notOrdered_dict hS.typeIs ?_);show wpAny _ _ (Builtin.Dict.addrOf (Value.ref S) >>= fun d=>pure (d,[Value.ref l])) _ _ _;unfold Builtin.Dict.addrOf;refine wpAny_bind (wpAny_pure (wpAny_pure ?_));show wpAny _ _ (Builtin.Dict.updateFrom "dict.__init__" S (Value.ref l) [] Value.none) _ _ _;unfold Builtin.Dict.updateFrom;have hT:s.TypeIs (.ref l) "list":=⟨o,ho,hc⟩;refine wpAny_bind (wpAny_typeOf hT ?_);dsimp only;rw[if_pos (by decide)];refine wpAny_bind (jid ho hc hd hn hh fun h1 tk1 k1=>?_);rw[if_pos (by rfl)];refine wpAny_bind (wpAny_rule ?_);have hl1:h1.IsList l items:=⟨o,k1 _ _ ho,hc,n,hd⟩;refine wpAny_bind (wpAny_pyIter_list (s:={ s with heap:=h1,toks:=tk1 }) hl1 ?_);have lt:∀{b:Addr} {u:Obj},h1.get? b=some u->b≠h1.objs.size:=fun e=>xan (Heap.lt_size e);obtain⟨oS,eS,pS,hS1,rS⟩:=hS;have lS:=lt (k1 _ _ hS1);have ll:=lt (k1 _ _ ho);have kp:∀b u,s.heap.get? b=some u->(h1.push { cls:=Value.type "list_iterator",data:=Data.fields #[Value.ref l,Value.int 0 0] }).get? b=some u:=fun b u e=>Heap.get?_push_of_some _ (k1 _ _ e);refine wpAny_pure ⟨plainId_quiet jba _,?_⟩;refine jdN (I:=h1.objs.size) (l:=l) (S:=S) (items:=items) hh ll lS Sl hz .none items.size 0 { s with heap:=h1.push { cls:=Value.type "list_iterator",data:=Data.fields #[Value.ref l,Value.int 0 0] },toks:=tk1 } [] qs 0 0 rfl (xaG _) ⟨_,Heap.get?_push_size _ rfl,rfl,rfl⟩ ⟨o,kp _ _ ho,hc,n,hd⟩ ⟨oS,eS,pS,kp _ _ hS1,rS⟩ (xaG _) hq (fun j v hj=>?_) fun h2 tk2 k2 d2=>?_
 ·obtain⟨h1',q1,hq1,a,o1,u,m,rfl,p1,p2,p3,p4⟩:=hp j v (by simpa using hj);exact⟨h1',(fun z=>by cases z;exact lt (k1 _ _ p1) rfl),q1,hq1,a,o1,u,m,rfl,kp _ _ p1,p2,p3,p4⟩
 ·exact q h2 tk2 (fun b u h1' e=>k2 b u h1' (lt (k1 _ _ e)) (kp _ _ e)) d2
theorem jeR {prog:Program} {w:World} {A:Around} {E:Value->Shared->Prop} {s:Shared} {l:Addr} {o:Obj} {items:Array Value} {n:Nat} {qs:List (Key × Value)} {Q:Value->Shared->Prop} (hh:A.handled=none) (ho:s.heap.get? l=some o) (hc:o.cls=.type "list") (hd:o.data=.seq items n) (hn:o.dict=none) (hz:items.size<=sizeLine) (hq:qs.length=items.size) (hp:∀(j:Nat) (v:Value),items[j]?=some v->∃q,qs[j]?=some q/\jhi prog w s.heap v q)
  (q:∀(h':Heap) (tk:Nat),(∀b o,s.heap.get? b=some o->h'.get? b=some o)->h'.DictOf (jbn prog w) s.heap.objs.size (qs.foldl (fun acc q=>stored acc q.1 q.2) [])->Q (.ref s.heap.objs.size) { s with heap:=h',toks:=tk }) :
  wpAny (model prog w) A (call (.type "dict") [.ref l]) Q E s:=by
 refine callType_codes F.kt_called_dict (F.kt_typeCall_dict_1 _) F.entry_dict_init (Q₁:=fun obj s₁=>obj=.ref s.heap.objs.size/\s₁={ s with heap:=s.heap.push { cls:=.type "dict",data:=.dict #[] } }) (kt_code_dict_new _ ⟨rfl,rfl⟩) ?_;rintro obj s₁ ⟨rfl,rfl⟩;have hnew:(s.heap.push { cls:=.type "dict",data:=.dict #[] }).DictOf (jbn prog w) s.heap.objs.size []:=Heap.DictOf.new s.heap;have lt:∀{b:Addr} {u:Obj},s.heap.get? b=some u->b≠s.heap.objs.size:=fun e=>xan (Heap.lt_size e);refine⟨Heap.DictOf.typeIs (s:={ s with heap:=s.heap.push { cls:=.type "dict",data:=.dict #[] } }) hnew,F.args_dict_init_2 _ _,?_⟩;refine jie (A:=A.in1) (s:={ s with heap:=s.heap.push { cls:=.type "dict",data:=.dict #[] } }) (items:=items) (qs:=qs) hh hnew (Heap.get?_push_of_some _ ho) hc hd hn (Ne.symm (lt ho)) hz hq (fun j v hj=>?_) fun h' tk k d=>?_
 ·obtain⟨q1,hq1,a,o1,u,m,rfl,p1,p2,p3,p4⟩:=hp j v hj;exact⟨(fun z=>by cases z;exact lt p1 rfl),q1,hq1,a,o1,u,m,rfl,Heap.get?_push_of_some _ p1,p2,p3,p4⟩
 ·exact⟨rfl,q h' tk (fun b o e=>k b o (lt e) (Heap.get?_push_of_some _ e)) d⟩
section
variable {X:Cx} {pos:Pos}
theorem jk8 {pins:List (Addr × Obj)} {σ:St} {H:Hp} {s:Shared} {a:Addr} {kvs:List (Key × V)} (I:Inv X pins σ H s) (e:H a=some (.dK kvs)):kvs.length<=sizeLine/\(a==sysModules)=false/\∃vs,KV kvs vs/\s.heap.DictOf (jbn X.prog X.w) a vs:=I.hok a _ e
theorem Inv.big {pins:List (Addr × Obj)} {σ:St} {H:Hp} {s:Shared} (I:Inv X pins σ H s):sysModules<s.heap.objs.size:=by
 have h:mainGlobals<s.heap.objs.size:=(I.mod.glob.keeps I.bk).lt;exact Nat.lt_trans (by decide) h
def rIxD:R2:=fun x y H Q=>∃p kvs k v,x=.ref p/\y=kV k/\H p=some (.dK kvs)/\jeb kvs k=some v/\Q v H
theorem jfv:IxR X rIxD:=by
 intro value slice pins s σ H x y v u Q I rx ry h hs;obtain⟨p,kvs,k,z,rfl,rfl,hp,he,q⟩:=h;cases rx;obtain⟨zl,hd,vs,rel,dd⟩:=jk8 I hp;obtain⟨w',hw,rw'⟩:=RelO.some_of (v:=z) (o:=valueAt vs k) (by rw[<- he];exact rel.val k);exact subscriptTail_builtinR (x:=w') dd.typeIs F.slot_dict_getitem.lookup (wpAny_getItem_of (Q:=fun r s'=>r=w'/\EP X pins σ Q r s') (jng ry) dd.mapOf hw ⟨rfl,z,H,I.tok _,rw',q⟩) hs
def rSetD:V->V->V->Hp->(Hp->Prop)->Prop:=fun o i v H Q=>∃p kvs k,o=.ref p/\i=kV k/\H p=some (.dK kvs)/\kvs.length<sizeLine/\Q (upd H p (.dK (jgC kvs k v)))
theorem jhj:PSet X rSetD:=by
 intro pins s σ H o i v ov iv u Q I ro ri rv h;obtain⟨p,kvs,k,rfl,rfl,hp,hl,q⟩:=h;cases ro;obtain⟨zl,hd,vs,rel,dd⟩:=jk8 I hp;have hz:vs.length<=sizeLine:=by rw[<- rel.length];exact zl
 have hl':(jgC kvs k v).length<=sizeLine:=by have:=jdn kvs k v;omega
 refine wpAny_setItem_pairs (hsz:=hz) (jng ri) dd fun h' dd' hs=>⟨_,?_,q⟩;have he:∃q,h'.get? p=some q:=let ⟨q,_,_,hq,_⟩:=dd';⟨q,hq⟩;exact I.write (x:=p) (e:=p) (by rw[hp];exact True.intro) (.inl rfl) (fun b q hb z=>(hs.2 b hb).trans z) he ⟨hl',hd,_,rel.put k rv,dd'⟩
theorem jif:CallR X (.builtin "len") (fun xs H Q=>∃p kvs,xs=[.ref p]/\H p=some (.dK kvs)/\Q (.int kvs.length) H):=by
 intro pins s σ H xs us Q I r h;obtain⟨p,kvs,rfl,hp,q⟩:=h;obtain⟨u,rfl,rx⟩:=jdK r;cases rx;obtain⟨zl,hd,vs,rel,dd⟩:=jk8 I hp;refine call_len_dict hd dd (by rw[<- rel.length];rw[sizeLine_eq] at zl;omega) ?_;exact⟨.int kvs.length,H,I.tok _,⟨_,by rw[rel.length]⟩,q⟩
def tDNew:TE:=fun _ H Q=>∀p,H p=none->Q (.ref p) (upd H p (.dK []))
theorem jjd:PE X (.Dict [] [] pos) tDNew:=fun pins s σ H Q I h =>
 wpAny_Dict_empty ⟨.ref s.heap.objs.size,_,I.laid (a:=s.heap.objs.size) (o:=.dK []) (t':=s.toks) (fun _ _ q=>Heap.get?_push_of_some _ q) (xae _) ⟨xaG _,beq_eq_false_iff_ne.mpr (Ne.symm (xan I.big)),[],.nil,Heap.DictOf.new s.heap⟩,rfl,h _ (I.hok.fresh (xae _))⟩
theorem kV_of {P:Program} {w:World} {k:Key} {v:Value} (h:(jbn P w).is k v=true):RelV (kV k) v:=by
 rcases jaV h with ⟨i,t,rfl,rfl⟩ | ⟨x,t,rfl,rfl⟩
 ·exact⟨t,rfl⟩
 ·exact⟨t,rfl⟩
theorem jhk:∀{xs:List V} {us:List Value},xs.length=us.length->(∀(i:Nat) (x:V) (u:Value),xs[i]?=some x->us[i]?=some u->RelV x u)->Vals xs us
 | [],[],_,_=>.nil
 | [],_::_,e,_=>by cases e
 | _::_,[],e,_=>by cases e
 | x::xs,u::us,e,h=>.cons (h 0 x u rfl rfl) (jhk (by simpa using e) fun i x u h1 h2=>h (i+1) x u h1 h2)
theorem jeS (hc:X.calm=true):CallR X (.type "list") (fun xs H Q=>∃p kvs,xs=[.ref p]/\H p=some (.dK kvs)/\∀l,H l=none->Q (.ref l) (upd H l (.lst (kvs.map fun q=>kV q.1)))):=by
 intro pins s σ H xs us Q I r h;obtain⟨p,kvs,rfl,hp,q⟩:=h;obtain⟨u,rfl,rx⟩:=jdK r;cases rx;obtain⟨zl,hd,vs,rel,dd⟩:=jk8 I hp;obtain⟨ep,da⟩:=dd.dictAt;have hl:=rel.length;refine PySem.W.kdl_call (PySem.W.kdl_dict hd) (I.ok.hd hc) da (by omega) fun h' tk acc' c' k e' it=>?_;obtain⟨z1,z2⟩:=it;refine⟨.ref _,_,I.laid (t':=tk) (o:=.lst (kvs.map fun q=>kV q.1)) k (xae _) ⟨by rw[xaa];exact zl,acc'.toList,c',jhk ((xaa _).trans (hl.trans (z1.symm.trans (Array.length_toList ..).symm))) fun i x u h1 h2=>?_,e'⟩,rfl,q _ (I.hok.fresh (xae _))⟩;rw[xaf] at h1;obtain⟨q1,hq1,rfl⟩:=xaD.mp h1;obtain⟨k2,x2,e2,e3⟩:=z2 i u (by simpa using h2);have ek:kvs.map (·.1)=vs.map (·.1):=rel.keys;have ek2:(kvs.map (·.1))[i]?=(vs.map (·.1))[i]?:=by rw[ek]
 rw[xaf,xaf,hq1,e2] at ek2;have ek3:q1.1=k2:=by simpa using ek2
 rw[ek3];exact kV_of e3
theorem jhl {P:Program} {w:World} {H:Hp} {h:Heap} (ok:HOk P w H h):∀{rs:List Addr} {its:List Value} {ps:List (Key × V)},Vals (rs.map V.ref) its->rs.length=ps.length->(∀(i:Nat) (r:Addr) (q:Key × V),rs[i]?=some r->ps[i]?=some q->H r=some (.tup [kV q.1,q.2]))->∃qs:List (Key × Value),KV ps qs/\qs.length=its.length/\∀(j:Nat) (v:Value),its[j]?=some v->∃q,qs[j]?=some q/\jhi P w h v q
  | [], its, ps, r, l, _ => by
    cases r;obtain rfl:ps=[]:=xa5.mp l.symm;exact⟨[],.nil,rfl,fun j v z=>by cases z⟩
  | a::rs,its,[],r,l,_=>by cases l
  | a :: rs, its, q :: ps, r, l, hp => by
    cases r with
    | @cons x u xs us r1 r2 =>
      cases r1;obtain⟨qs,h1,h2,h3⟩:=jhl ok r2 (by simpa using l) fun i r q e1 e2=>hp (i+1) r q e1 e2;obtain⟨_,it2,rv,o,ho,hc,n,hd⟩:=(show ObjOk P w H h a (.tup [kV q.1,q.2]) from ok a _ (hp 0 a q rfl rfl))
      match it2,rv with
      | _, .cons (b := u1) k1 (.cons (b := u2) k2 .nil) =>
        refine⟨(q.1,u2)::qs,.cons ⟨rfl,k2⟩ h1,by rw[xaw,xaw,h2],fun j v z=>?_⟩;cases j with
        | zero=>cases z;exact⟨_,rfl,a,o,u1,n,rfl,ho,hc,hd,jng k1⟩
        | succ j=>exact h3 j v z
def ofK (ps:List (Key × V)):List (Key × V):=ps.foldl (fun acc q=>jgC acc q.1 q.2) []
theorem jje:∀{ps:List (Key × V)} {qs:List (Key × Value)} {kvs:List (Key × V)} {vs:List (Key × Value)},KV ps qs->KV kvs vs->KV (ps.foldl (fun acc q=>jgC acc q.1 q.2) kvs) (qs.foldl (fun acc q=>stored acc q.1 q.2) vs)
  | _,_,_,_,.nil,k=>k
  | _, _, _, _, .cons (a := p) (b := q) h t, k => by
    obtain⟨h1,h2⟩:=h;rw[xck,xck];refine jje t ?_;rw[<- h1];exact KV.put k p.1 h2
theorem jhm:∀(ps kvs:List (Key × V)),(ps.foldl (fun acc q=>jgC acc q.1 q.2) kvs).length<=kvs.length+ps.length
  | [],kvs=>xae _
  | p :: ps, kvs => by
    have h1:=jhm ps (jgC kvs p.1 p.2);have h2:=jdn kvs p.1 p.2;rw[xck,xaw];omega
theorem jet (hc:X.calm=true):CallR X (.type "dict") (fun xs H Q=>∃(p:Addr) (rs:List Addr) (ps:List (Key × V)),xs=[.ref p]/\H p=some (.lst (rs.map V.ref))/\rs.length=ps.length/\(∀(i:Nat) (r:Addr) (q:Key × V),rs[i]?=some r->ps[i]?=some q->H r=some (.tup [kV q.1,q.2]))/\∀d,H d=none->Q (.ref d) (upd H d (.dK (ofK ps)))):=by
 intro pins s σ H xs us Q I r h;obtain⟨p,rs,ps,rfl,hp,hl,hq,q⟩:=h;obtain⟨u,rfl,rx⟩:=jdK r;cases rx;obtain⟨its,n,rv,ho,hz⟩:=I.lst hp;obtain⟨qs,kv,lq,pq⟩:=jhl I.hok rv hl hq;have li:=rv.length;rw[xaa] at li hz;refine jeR (items:=its.toArray) (qs:=qs) (I.ok.hd hc) ho rfl rfl rfl (by rw[xai];omega) (by rw[xai];exact lq) (fun j v hj=>pq j v (by simpa using hj)) fun h' tk k d=>?_;have ll:=jhm ps [];refine⟨.ref _,_,I.laid (t':=tk) (o:=.dK (ofK ps)) k (xae _) ⟨?_,beq_eq_false_iff_ne.mpr (Ne.symm (xan I.big)),_,jje kv .nil,d⟩,rfl,q _ (I.hok.fresh (xae _))⟩;show (ps.foldl (fun acc q=>jgC acc q.1 q.2) []).length<=sizeLine;rw[List.length_nil] at ll;omega
end
def rows (n:Nat):Nat->List (List Nat)
 | 0=>[[]]
 | k+1=>(List.range n).flatMap fun x=>(rows n k).map (x::·)
def rk (ks:List Int) (i:Nat):Nat:=(List.range ks.length).countP fun j=>decide (ks.getD j 0<ks.getD i 0)
section
variable {X:Cx}
theorem jig {ns:List Int} {vs:List Value} (h:PyProof.Rows.IntsAre vs ns):Vals (ns.map V.int) vs:=by
 induction h with
 | nil=>exact .nil
 | cons r ih=>exact .cons ⟨_,rfl⟩ (by assumption)
end
end L2
set_option maxHeartbeats 2000000
namespace L2
open PySem PySem.Spec PyProof.Rows
def Rise (xs:Array Nat):Prop:=∀i j,i<j->j<xs.size->xs.getD i 0<xs.getD j 0
theorem jjf {xs:Array Nat} {j:Nat} (R:Rise xs):∀(f lo hi:Nat),hi-lo<=f->lo<=hi->hi<=xs.size->(∀i,i<lo->xs.getD i 0<j)->(∀i,hi<=i->i<xs.size->j<=xs.getD i 0)->∃p,SetTable.below.go xs j f lo hi=p/\p<=xs.size/\(∀i,i<p->xs.getD i 0<j)/\∀i,p<=i->i<xs.size->j<=xs.getD i 0
  | 0,lo,hi,h,l,hs,h1,h2=>⟨lo,rfl,by omega,h1,fun i h3 h4=>h2 i (by omega) h4⟩
  | f + 1, lo, hi, h, l, hs, h1, h2 => by
    unfold SetTable.below.go;by_cases c:lo<hi
    . rw[if_pos c]
      dsimp only;have m1:lo<=(lo+hi) / 2:=by omega
      have m2:(lo+hi) / 2<hi:=by omega
      have gm:xs.getD ((lo+hi) / 2) j=xs.getD ((lo+hi) / 2) 0:=by
        rw[Array.getD_eq_getD_getElem?,Array.getD_eq_getD_getElem?,Array.getElem?_eq_getElem (show (lo+hi) / 2<xs.size by omega)];rfl
      rw[gm];by_cases d:xs.getD ((lo+hi) / 2) 0<j
      . rw[if_pos d]
        refine jjf R f _ hi (by omega) (by omega) hs (fun i h3=>?_) h2;rcases xcs i ((lo+hi) / 2) with z | z
        . exact Nat.lt_trans (R i _ z (by omega)) d
        . rw[show i=(lo+hi) / 2 by omega];exact d
      . rw[if_neg d]
        refine jjf R f lo _ (by omega) (by omega) (by omega) h1 (fun i h3 h4=>?_);rcases xcs ((lo+hi) / 2) i with z | z
        . have:=R _ i z h4;omega
        . rw[show i=(lo+hi) / 2 by omega];omega
    . rw[if_neg c]
      exact⟨lo,rfl,by omega,h1,fun i h3 h4=>h2 i (by omega) h4⟩
theorem blw {xs:Array Nat} {j:Nat} (R:Rise xs):SetTable.below xs j<=xs.size/\(∀i,i<SetTable.below xs j->xs.getD i 0<j)/\∀i,SetTable.below xs j<=i->i<xs.size->j<=xs.getD i 0:=by
 obtain⟨p,e,h⟩:=jjf (j:=j) R xs.size 0 xs.size (by omega) (xaG _) (xae _) (fun i h=>absurd h (xaR _)) fun i h1 h2=>absurd h2 (by omega);unfold SetTable.below;rw[e];exact h
theorem jhn {xs:Array Nat} {p x:Nat} (h:p<=xs.size) (i:Nat):(SetTable.insertAt xs p x).getD i 0=if i<p then xs.getD i 0 else if i=p then x else xs.getD (i-1) 0:=by
 have l:=SetTable.toList_insertAt xs p x;rw[Array.getD_eq_getD_getElem?,<- Array.getElem?_toList,l];by_cases c:i<p
 ·rw[if_pos c,xaH (by rw[xau,Array.length_toList];omega),List.getElem?_take_of_lt c,Array.getElem?_toList,Array.getD_eq_getD_getElem?]
 ·rw[if_neg c,xat (by rw[xau];omega),xau,Array.length_toList,xb4 h];by_cases d:i=p
  ·rw[if_pos d,d,xcq];rfl
  ·rw[if_neg d,show i-p=(i-1-p)+1 by omega,xbt,xb5,show p+(i-1-p)=i-1 by omega,Array.getElem?_toList,Array.getD_eq_getD_getElem?]
theorem jk9 {α:Type} {xs:Array α} {p:Nat} {x:α}:(SetTable.insertAt xs p x).size=xs.size+1:=by
 have h:=(SetTable.insertAt_perm xs p x).length_eq;rw[Array.length_toList,Array.length_toList,Array.size_push] at h;exact h
theorem Rise.ins {xs:Array Nat} {x:Nat} (R:Rise xs) (n:xs[SetTable.below xs x]?≠some x):Rise (SetTable.insertAt xs (SetTable.below xs x) x):=by
 obtain⟨b1,b2,b3⟩:=blw (j:=x) R;have b4:∀i,SetTable.below xs x<=i->i<xs.size->x<xs.getD i 0:=fun i h1 h2=>by
  have h3:=b3 i h1 h2;have h5:SetTable.below xs x<xs.size:=by omega
  have h4:xs.getD (SetTable.below xs x) 0≠x:=fun e=>n (by
   rw[Array.getElem?_eq_getElem h5];rw[Array.getD_eq_getD_getElem?,Array.getElem?_eq_getElem h5] at e;exact congrArg some e)
  have h6:=b3 _ (xae _) h5;rcases xcs (SetTable.below xs x) i with z | z
  ·have:=R _ i z h2;omega
  ·rw[show i=SetTable.below xs x by omega];omega
 intro i j ij hj;rw[jk9] at hj;rw[jhn b1,jhn b1];by_cases c1:i<SetTable.below xs x
 ·rw[if_pos c1];by_cases c2:j<SetTable.below xs x
  ·rw[if_pos c2];exact R i j ij (by omega)
  ·rw[if_neg c2];by_cases c3:j=SetTable.below xs x
   ·rw[if_pos c3];exact b2 i c1
   ·rw[if_neg c3];exact R i (j-1) (by omega) (by omega)
 ·rw[if_neg c1,if_neg (show ¬j<SetTable.below xs x by omega),if_neg (show ¬j=SetTable.below xs x by omega)];by_cases c3:i=SetTable.below xs x
  ·rw[if_pos c3];exact b4 (j-1) (by omega) (by omega)
  ·rw[if_neg c3];exact R (i-1) (j-1) (by omega) (by omega)
structure Tb (bt:Bool) (t:SetTable):Prop where
 led:t.led=!bt
 dum:t.dummies=#[]
 rise:Rise t.place
theorem jho (n i:Nat):(Array.range n).getD i 0=if i<n then i else 0:=by
 rw[Array.getD_eq_getD_getElem?];by_cases c:i<n
 ·rw[if_pos c,Array.getElem?_eq_getElem (by rw[Array.size_range];exact c),Array.getElem_range];rfl
 ·rw[if_neg c,Array.getElem?_eq_none (by rw[Array.size_range];omega)];rfl
theorem Tb.fresh {bt:Bool}:Tb bt (SetTable.fresh 0 0 !bt):=⟨rfl,rfl,fun i j _ h=>absurd h (xaR _)⟩
theorem Tb.stand {bt:Bool} {t:SetTable} (T:Tb bt t) (n:Nat):Tb bt (t.standIn n):=⟨T.led,rfl,fun i j ij hj=>by
 have hj:j<n:=by rw[show (t.standIn n).place=Array.range n from rfl,Array.size_range] at hj;exact hj
 show (Array.range n).getD i 0<(Array.range n).getD j 0;rw[jho,jho,if_pos hj,if_pos (by omega)];exact ij⟩
theorem jhp {t:SetTable} (D:t.dummies=#[]) {hs:Nat->Int} {h:Int}:∀(f:Nat) (p:SetTable.Probe) (j:Nat) (d:Option Nat),p.dummy=none->SetTable.probe.go t hs h f p=some (.empty j d)->d=none/\t.slot j=.empty
  | 0,p,j,d,_,e=>by cases e
  | f + 1, p, j, d, e0, e => by
    unfold SetTable.probe.go at e;have adv:∀q:SetTable.Probe,q.dummy=none->(t.advance q).dummy=none:=fun q hq=>by
      unfold SetTable.advance;split<;>exact hq
    split at e
    . rename_i hs
      cases e;exact⟨e0,hs⟩
    . rename_i hs
      exfalso;unfold SetTable.slot at hs;dsimp only at hs;split at hs
      . cases hs
      . rw[D] at hs
        split at hs
        . rename_i z
          unfold SetTable.has at z;simp at z
        . cases hs
    . split at e
      . cases e
      . exact jhp D f _ j d (adv p e0) e
theorem Tb.orStand {bt:Bool} {t:SetTable} (T:Tb bt t) (n:Nat):Tb bt (t.orStandIn n):=by
 unfold SetTable.orStandIn;split
 ·exact T
 ·exact T.stand n
theorem Tb.lay {bt:Bool} {t:SetTable} (T:Tb bt t) (es:Array (Int × Value)) (h:Int) (x:Value):Tb bt (layNew t es h x).2.1:=by
 unfold layNew;split
 ·rename_i slot wd e
  unfold SetTable.freeSlot at e;split at e
  ·rename_i j d ep
   cases e;obtain⟨rfl,hs⟩:=jhp T.dum _ _ _ _ rfl ep;show Tb bt (((t.put j).1).orStandIn _);refine Tb.orStand (t:=(t.put j).1) ⟨T.led,?_,?_⟩ _
   ·show (if SetTable.has t.dummies _=true then _ else t.dummies)=#[];rw[T.dum,if_neg (by unfold SetTable.has;simp)]
   ·refine T.rise.ins fun z=>?_;unfold SetTable.slot at hs;dsimp only at hs;rw[if_pos (by rw[z];exact beq_self_eq_true _)] at hs;cases hs
  ·cases e
 ·exact T.stand _
theorem jnh {l:List Nat} (h:l.Pairwise (· < ·)):Rise l.toArray:=fun i j ij hj=>by
 have hj:j<l.length:=by rw[xai] at hj;exact hj
 have:=List.pairwise_iff_getElem.mp h i j (by omega) hj ij;rw[Array.getD_eq_getD_getElem?,Array.getD_eq_getD_getElem?,xbS,xbS,xab hj,xab (show i<l.length by omega)];exact this
theorem jmd {f:Nat->Option Nat}:∀{l:List Nat},l.Pairwise (· < ·)->((l.filterMap fun j=>(f j).map (j,·)).map (·.1)).Pairwise (· < ·)/\∀x∈(l.filterMap fun j=>(f j).map (j,·)).map (·.1),x∈l
  | [],_=>⟨.nil,fun _ h=>nomatch h⟩
  | a :: l, h => by
    obtain⟨h1,h2⟩:=jmd (f:=f) (xbA.mp h).2;have h3:=(xbA.mp h).1;cases e:f a with
    | none =>
      rw[List.filterMap_cons_none (by rw[e];rfl)];exact⟨h1,fun x hx=>.tail _ (h2 x hx)⟩
    | some v =>
      rw[List.filterMap_cons_some (b:=(a,v)) (by rw[e];rfl),xay];refine⟨.cons (fun x hx=>h3 x (h2 x hx)) h1,fun x hx=>?_⟩;rcases xap.mp hx with rfl | hx
      . exact .head _
      . exact .tail _ (h2 x hx)
theorem Tb.relay {bt:Bool} {t:SetTable} (T:Tb bt t) (es:Array (Int × Value)) (n:Nat):Tb bt (relayAll t es n).2.1:=by
  unfold relayAll;split
  . rename_i t' order e
    dsimp only;split
    . unfold SetTable.relaid SetTable.laid at e
      cases eo:SetTable.layClean (SetTable.sizeAbove n-1) (es.map (·.1)) with
      | none=>rw[eo] at e;cases e
      | some owner =>
        rw[eo] at e;cases e;exact⟨T.led,rfl,jnh (jmd (xb9)).1⟩
    . exact T.stand _
  . exact T.stand _
def byT (w:World):Bool:=w.params.followText "set-order"
def vz (e:Int × Value):Int:=match e.2 with | .int z _=>z | _=>0
structure SI (bt:Bool) (h:Heap) (a:Addr) (ns:List Int) (ep:Nat) (es:Array (Int × Value)) (t:SetTable):Prop where
 get:h.get? a=some { cls:=.type "set",data:=.set es ep t }
 el:∀e∈es.toList,∃z u,e=(hashInt z,.int z u)
 nd:(es.toList.map vz).Nodup
 mem:∀z,z∈es.toList.map vz↔z∈ns
 fit:t.fits es.size=true
 tb:Tb bt t
 len:es.size<=ns.length
theorem SI.elems {P:Program} {w:World} {bt h a ns ep es t} (x:SI bt h a ns ep es t):ElemsOf (intKind P w) es.toList:=fun e he=>by
 obtain⟨z,u,rfl⟩:=x.el e he;exact⟨⟨z,intKind_is _ _ _ _,rfl⟩,rfl⟩
theorem SI.keep {bt h h' a ns ep es t} (x:SI bt h a ns ep es t) (k:∀o,h.get? a=some o->h'.get? a=some o):SI bt h' a ns ep es t:=⟨k _ x.get,x.el,x.nd,x.mem,x.fit,x.tb,x.len⟩
section
variable {P:Program} {w:World} {A:Around} {E:Value->Shared->Prop} {s:Shared}
theorem jme {h:Heap} {a:Addr} {es:Array (Int × Value)} {ep:Nat} {t:SetTable} (g:h.get? a=some { cls:=.type "set",data:=.set es ep t }) (es':Array (Int × Value)) (t':SetTable):(h.update a (Obj.putSet es' t')).get? a=some { cls:=.type "set",data:=.set es' (ep+1) t' }:=Heap.get?_update_self (Obj.putSet es' t') g rfl
theorem SI.add {bt:Bool} {a:Addr} {ns:List Int} {ep:Nat} {es:Array (Int × Value)} {t:SetTable} {z:Int} {u:Tok} {Q:Bool->Shared->Prop} (x:SI bt s.heap a ns ep es t) (hb:ns.length+1<scanBound)
    (q:∀(b:Bool) h' ep' es' t',Heap.SameBut a s.heap h'->SI bt h' a (ns++[z]) ep' es' t'->Q b { s with heap:=h' }):wpAny (model P w) A (setAddHashed a (.int z u) (hashInt z)) Q E s:=by
  have sb:es.size<scanBound:=xbb x.len (Nat.lt_of_succ_lt hb);have key:(intKind P w).is z (.int z u)=true:=intKind_is _ _ _ _;unfold setAddHashed setAddHashedIn;refine wpAny_holding (wpAny_bind (wpAny_setState_of x.get rfl x.fit ?_));dsimp only;rw[byScan_of (knd:=intKind P w) rfl sb x.elems,if_pos rfl];unfold setAddByScan;refine wpAny_bind (wpAny_bind (wpAny_rule (wpAny_bind (wpAny_setScan_of (knd:=intKind P w) (k:=z) key x.get rfl x.fit x.elems ?_))));cases hr:es.toList.findIdx? (fun e=>(intKind P w).is z e.2) with
  | some j =>
    obtain⟨hj,hp,_⟩:=List.findIdx?_eq_some_iff_getElem.mp hr;obtain⟨z',u',e'⟩:=x.el _ (xa2 hj);rw[e'] at hp;have ez:z=z':=(intKind P w).inj _ _ _ hp (intKind_is P w z' u');have iz:z∈ns:=(x.mem z).mp (xax.mpr ⟨_,xa2 hj,by rw[e',ez];rfl⟩);refine wpAny_pure (wpAny_pure (q false s.heap ep es t (Heap.SameBut.refl a s.heap) ⟨x.get,x.el,x.nd,fun k=>?_,x.fit,x.tb,?_⟩))
    . rw[x.mem,xaz,xam]
      exact⟨.inl,fun h=>h.elim id fun e=>e▸iz⟩
    . rw[xad];have:=x.len;omega
  | none =>
    have nz:z∉es.toList.map vz:=fun h=>by
      obtain⟨e,he,ee⟩:=xax.mp h;have hn:=List.findIdx?_eq_none_iff.mp hr e he;obtain⟨z',u',rfl⟩:=x.el e he;cases ee;have h2:(intKind P w).is z' (.int z' u')=false:=hn;rw[intKind_is] at h2;cases h2
    have perm:=layNew_perm t es (hashInt z) (.int z u);have fit:=layNew_fits t es (hashInt z) (.int z u);have tb:=x.tb.lay es (hashInt z) (.int z u);have gw:∀(b:Bool) {s₁:Shared} {Q':Unit->Shared->Prop},Q' () s₁->wpAny (model P w) A (match b with | true=>rule "set.scan.the-table-gave-way" | false=>pure ()) Q' E s₁:=fun b s₁ Q' hq=>by
      cases b
      . exact wpAny_pure hq
      . exact wpAny_rule hq
    have good:∀(h':Heap) (es':Array (Int × Value)) (ep':Nat) (t':SetTable),h'.get? a=some { cls:=.type "set",data:=.set es' ep' t' }->es'.toList.Perm (es.push (hashInt z,.int z u)).toList->t'.fits es'.size=true->Tb bt t'->SI bt h' a (ns++[z]) ep' es' t':=fun h' es' ep' t' g pm f tb=>by
      rw[Array.toList_push] at pm;have pz:(es'.toList.map vz).Perm (es.toList.map vz++[z]):=by
        have:=pm.map vz;rw[xaj] at this;exact this
      refine⟨g,fun e he=>?_,?_,fun k=>?_,f,tb,?_⟩
      . rcases xaz.mp (pm.mem_iff.mp he) with h | h
        . exact x.el e h
        . exact⟨z,u,xam.mp h⟩
      . refine pz.nodup_iff.mpr (xcB.mpr ⟨x.nd,xbn.mpr ⟨xbY,.nil⟩,fun a ha b hb=>?_⟩)
        rw[xam.mp hb];exact fun e=>nz (e▸ha)
      . rw[pz.mem_iff,xaz,xaz,x.mem]
      . have l:=pm.length_eq
        rw[Array.length_toList,xad,Array.length_toList] at l;rw[xad];have:=x.len;have e1:([z]:List Int).length=1:=rfl;have e2:([(hashInt z,Value.int z u)]:List (Int × Value)).length=1:=rfl;omega
    generalize hL:layNew t es (hashInt z) (.int z u)=L at perm fit tb |-
    obtain⟨es1,t1,wasDummy,gave⟩:=L;dsimp only at perm fit tb |-
    have sz1:es1.size=es.size+1:=by
      have l:=perm.length_eq;rw[Array.length_toList,Array.toList_push,xad,Array.length_toList] at l;exact l
    have sl1:es1.size<=sizeLine:=fits_of_scanBound (by have:=x.len;omega);refine wpAny_bind (gw _ ?_);have fin:∀t2:SetTable,t2.fits es1.size=true->Tb bt t2->∀{g:Bool->Sem Unit},(∀(b:Bool) {s₁:Shared} {Q':Unit->Shared->Prop},Q' () s₁->wpAny (model P w) A (g b) Q' E s₁)->wpAny (model P w) A (do
        storeSet a es1 t2
        if (!wasDummy && t2.tooFull) = true then do
            g (relayAll t2 es1 (SetTable.grown es1.size)).2.2
            storeSet a (relayAll t2 es1 (SetTable.grown es1.size)).1 (relayAll t2 es1 (SetTable.grown es1.size)).2.1
            pure (some true)
          else pure (some true)) (fun o s'=>∃b,o=some b/\Q b s') E s:=fun t2 f2 tb2 g hg=>by
      refine wpAny_bind (wpAny_storeSet_of x.get rfl ?_ sl1);have g1:=jme x.get es1 t2;have b1:=Heap.SameBut.update s.heap a (Obj.putSet es1 t2);split
      . have perm2:=relayAll_perm t2 es1 (SetTable.grown es1.size)
        have fit2:=relayAll_fits t2 es1 (SetTable.grown es1.size);have tb3:=tb2.relay es1 (SetTable.grown es1.size);refine wpAny_bind (hg _ (wpAny_bind (wpAny_storeSet_of g1 rfl ?_ (by
          have l:=perm2.length_eq;rw[Array.length_toList,Array.length_toList] at l;rw[l];exact sl1))))
        exact wpAny_pure ⟨_,rfl,q true _ _ _ _ (b1.trans (Heap.SameBut.update _ a _)) (good _ _ _ _ (jme g1 _ _) (perm2.trans perm) fit2 tb3)⟩
      . exact wpAny_pure ⟨_,rfl,q true _ _ _ _ b1 (good _ _ _ _ g1 perm f2 tb2)⟩
    have cont:∀(o:Option Bool) (s':Shared),(∃b,o=some b/\Q b s')->wpAny (model P w) A (match o with | some added=>(pure added:Sem Bool) | none=>setAddHashedIn a (.int z u) (hashInt z) 99999) Q E s':=fun o s' ⟨b,e,h⟩=>by
      subst e;exact wpAny_pure h
    split
    . refine wpAny_bind ?_
      rw[hashByValue_scannable 8 rfl];refine wpAny_pure ?_;rw[show plainKind (.int z u)=true from rfl,if_pos rfl];exact wpAny_mono (fin t1 fit tb fun b _ _ hq=>gw b hq) cont fun _ _ e=>e
    . refine wpAny_bind (wpAny_pure ?_)
      rw[if_pos rfl];exact wpAny_mono (fin t1 fit tb fun b _ _ hq=>gw b hq) cont fun _ _ e=>e
def jbg (w:World):Obj:={ cls:=.type "set",data:=.set #[] 0 (.fresh 0 0 (!byT w)) }
theorem SI.new {h:Heap} {a:Addr} (g:h.get? a=some (jbg w)):SI (byT w) h a [] 0 #[] (.fresh 0 0 (!byT w)):=⟨g,(fun e he=>nomatch he),.nil,fun z=>Iff.rfl,rfl,Tb.fresh,xae _⟩
theorem jni (x:Value) {Q₁:Value->Shared->Prop} (h:Q₁ (.ref s.heap.objs.size) { s with heap:=s.heap.push (jbg w) }):codeAny (model P w) A (.call (.builtin "set.__new__") ⟨[.type "set",x],[]⟩) (wants Q₁ E) s:=by
 refine codeAny_of_tree (wpAny_bind (wpAny_of_eq (F.newCall_set_1 x) (wpAny_pure ⟨plainId_quiet F.plain_set_new _,codeAny_builtin F.entry_set_new ?_⟩)));rw[Around.under_plainId F.plain_set_new _];unfold Builtin.«set.__new__» Builtin.Frozenset.newClass;have sub:=sub_set_self;obtain⟨hp,g,d,tk,os⟩:=s;dsimp only
 wp_walk
 refine wpAny_askSetting (wpAny_pure ?_);dsimp only;simp only[newObj];exact wpAny_bind (wpAny_alloc (wpAny_pure (wpAny_pure h)))
theorem jla {R:Result->Shared->Prop} {I:Addr} {fp wr:List Addr} {G:Array GenState->Array GenState->Prop} {n:Nat} {V:Nat->Value->Prop} {St:Nat->Shared->Prop} (W:WalksS P w A.in1 I fp wr G n V St) (S:Addr) (nS:S∉fp) (val:Nat->Int) (hv:∀i v,V i v->∃t,v=.int (val i) t) (hb:n+1<scanBound):∀(k i:Nat) (s:Shared) (ep:Nat) (es:Array (Int × Value)) (t:SetTable),n-i=k->i<=n->St i s->SI (byT w) s.heap S ((List.range i).map val) ep es t ->
    (∀s' ep' es' t',Moved (S::wr) G s s'->SI (byT w) s'.heap S ((List.range n).map val) ep' es' t'->R (.ok (.ret .none)) s')->codeAny (model P w) A (.builtin "set.update.loop" ⟨[.ref S,.ref I],[]⟩) R s:=by
  have sw:S∉wr:=fun h=>nS (W.sub _ h);have sub:∀b∈wr,b∈S::wr:=fun b hb=>.tail _ hb;intro k;induction k with
  | zero =>
    intro i s ep es t hk hi st x q;obtain rfl:i=n:=by omega
    refine codeAny_builtin F.entry_set_update_loop ?_;rw[Around.under_plainId F.plain_set_update_loop _];unfold Builtin.«set.update.loop»;refine wpAny_bind (W.done s _ _ st fun s' hm=>?_);exact wpAny_pure (q s' _ _ _ (hm.mono sub) (x.keep (hm.heap S · sw)))
  | succ k ih =>
    intro i s ep es t hk hi st x q;refine codeAny_builtin F.entry_set_update_loop ?_;rw[Around.under_plainId F.plain_set_update_loop _];unfold Builtin.«set.update.loop»;refine wpAny_bind (W.item i s _ _ (by omega) st fun v s' hV st' hm=>?_);obtain⟨t',rfl⟩:=hv i v hV;refine wpAny_bind (wpAny_holding ?_);unfold setAdd;refine wpAny_holding (wpAny_bind (wpAny_pyHash_int ?_));refine SI.add (s:={ s' with toks:=s'.toks+1 }) (x.keep (hm.heap S · sw)) (by rw[xaa,xaV];omega) fun b h' ep' es' t2 sb y=>?_;have y':SI (byT w) h' S ((List.range (i+1)).map val) ep' es' t2:=by
      rw[xaM,xaj];exact y
    refine wpAny_pure ⟨plainId_quiet F.plain_set_update_loop _,ih (i+1) _ _ _ _ (by omega) (by omega) (W.frame _ s' _ _ st' (xbP _) fun b hb o e=>?_) y' fun s'' ep3 es3 t3 hm3 z=>?_⟩
    . rw[sb.2 b fun h=>nS (h▸hb)];exact e
    . refine q s'' _ _ _ (Moved.trans W.gtrans ((hm.mono sub).then_heap (xbP _) fun b o hb e=>?_) hm3) z
      rw[sb.2 b fun h=>hb (h▸.head _)];exact e
theorem jlb {l:Addr} {items:Array Value} {ns:List Int} {Q:Value->Shared->Prop} (hh:A.handled=none) (hl:s.heap.IsList l items) (hi:IntsAre items.toList ns) (hb:items.size+1<scanBound)
    (q:∀(h':Heap) (tk ep:Nat) (es:Array (Int × Value)) (t:SetTable),SI (byT w) h' s.heap.objs.size ns ep es t->(∀b o,s.heap.get? b=some o->h'.get? b=some o)->Q (.ref s.heap.objs.size) { s with heap:=h',toks:=tk }) :
    wpAny (model P w) A (call (.type "set") [.ref l]) Q E s:=by
  have en:items.size=ns.length:=by rw[<- Array.length_toList];exact hi.length
  have g0:(s.heap.push (jbg w)).get? s.heap.objs.size=some (jbg w):=Heap.get?_push_size _ rfl;have old:∀{b:Addr} {o:Obj},s.heap.get? b=some o->b≠s.heap.objs.size:=fun e=>xan (Heap.lt_size e);obtain⟨c,tl,hmro⟩:=F.called_set.mro;have m1:=F.called_set.made;have m2:=F.called_set.sub;have m3:=F.called_set.notType;have m4:=F.called_set.canCreate;have m5:=F.typeCall_set_1 (.ref l);refine wpAny_call (codeAny_of_tree (?_:wpAny _ _ (callAny (.type "set") _) _ _ _));refine wpAny_pure ⟨Code.quiet_builtin _ (by decide +kernel),codeAny_builtin F.entry_type_call ?_⟩;rw[Around.under_plain (weight_type_call_type "set" [.ref l] []) rfl]
  repeat (any_goals (first | assumption | wp_step))
  refine codeAny_mono (jni (.ref l) (E:=E) (Q₁:=fun obj s₁=>obj=.ref s.heap.objs.size/\s₁={ s with heap:=s.heap.push (jbg w) }) ⟨rfl,rfl⟩) fun r s₁ hr=>?_;cases r with
  | error e=>exact hr
  | ok fl =>
    cases fl with
    | ret obj =>
      obtain⟨rfl,rfl⟩:=hr;have T0:Shared.TypeIs { s with heap:=s.heap.push (jbg w) } (.ref s.heap.objs.size) "set":=⟨_,g0,rfl⟩;have i1:=F.called_set.init.lookup;have i2:=F.called_set.init.bind (.ref s.heap.objs.size)
      repeat (any_goals (first | assumption | wp_step))
      refine codeAny_mono (codeAny_call_builtin (R:=wants (fun r s₂=>r=.none/\∃h' tk ep es t,s₂={ s with heap:=h',toks:=tk }/\SI (byT w) h' s.heap.objs.size ns ep es t/\∀b o,s.heap.get? b=some o->h'.get? b=some o) E) F.called_set.init.plain F.entry_set_init (check_set_init_1 T0 ?_)) fun r₂ s₂ hr₂=>?_
      . obtain⟨ol,hol,hcl,nl,hdl⟩:=hl
        obtain⟨ocls,odict,odata,oslots⟩:=ol;cases hcl;cases hdl;have gl:(s.heap.push (jbg w)).get? l=some { cls:=.type "list",dict:=odict,data:=.seq items nl,slots:=oslots }:=Heap.get?_push_of_some _ hol;have b1:=F.sub_list_set;have b2:=F.sub_list_frozenset;have b3:(Value.type "list"==Value.type "dict")=false:=by decide
        have L1:(s.heap.push (jbg w)).IsList l items:=⟨_,gl,rfl,nl,rfl⟩;unfold Builtin.«set.__init__» noKeywords Builtin.Frozenset.updateFrom;generalize hPI:pyIter=PI
        wp_walk
        subst hPI;refine wpAny_pyIter_list L1 (wpAny_bind (wpAny_runValue ?_));have lS:l<s.heap.objs.size:=Heap.lt_size hol;have nI:l≠(s.heap.push (jbg w)).objs.size:=by
          rw[Heap.size_push];exact xan (xa4 lS)
        have nS:s.heap.objs.size∉[(s.heap.push (jbg w)).objs.size,l]:=by
          rw[Heap.size_push];intro z;rcases xap.mp z with z | z
          . exact xan (xcg _) z
          . exact xcd lS (xam.mp z)
        have rg:(List.range items.size).map (fun i=>ns.getD i 0)=ns:=by
          refine List.ext_getElem (by rw[xaa,xaV,en]) fun i h1 h2=>?_;rw[List.getElem_map,List.getElem_range,xac,xab h2];rfl
        refine jla ((Walks.list (A:=A.in1.in1.in1) (by simp [hh]) _ l nI items).toS) s.heap.objs.size nS (fun i=>ns.getD i 0) (fun i v hv=>hi.int_at i v (by rw[Array.getElem?_toList];exact hv)) hb items.size 0 _ 0 #[] (.fresh 0 0 (!byT w)) rfl (xaG _) ?st ?si fun s' ep' es' t' hm x=>?_
        case st=>exact⟨⟨_,Heap.get?_push_size _ rfl,rfl,rfl⟩,L1.push _⟩
        case si=>exact SI.new (Heap.get?_push_of_some _ g0)
        obtain⟨h',g',d',tk',os'⟩:=s';obtain rfl:g'=s.gens:=hm.gens;obtain rfl:d'=s.drawn:=hm.drawn;obtain rfl:os'=s.os:=hm.os;rw[rg] at x;refine wpAny_pure (wpAny_pure ⟨rfl,h',tk',ep',es',t',rfl,x,fun b o e=>?_⟩);have lb:=Heap.lt_size e;refine hm.heap b o (fun z=>?_) (Heap.get?_push_of_some _ (Heap.get?_push_of_some _ e));rcases xap.mp z with z | z
        . exact xan lb z
        . have:=xam.mp z
          rw[Heap.size_push] at this;exact xan (xa4 lb) this
      . cases r₂ with
        | error e=>exact hr₂
        | ok fl₂ =>
          cases fl₂ with
          | ret r =>
            obtain⟨rfl,h',tk,ep',es',t',rfl,x,k⟩:=hr₂
            repeat (any_goals (first | assumption | wp_step))
            exact q _ _ _ _ _ x k
          | _=>exact hr₂.elim
    | _=>exact hr.elim
end
theorem jjg:Slot "set_iterator" "__iter__" "set_iterator.__iter__":=.of (owner:="set_iterator") (n:="__iter__") (by rw[typeLookup_type,builtinLookup_eq_fast];kernel_rfl) (by decide +kernel) (by decide +kernel) (by decide +kernel) (by first | exact .inl (by decide +kernel) | exact .inr (by decide +kernel)) (by rw[isSubtype_type];kernel_rfl)
theorem si_next:Slot "set_iterator" "__next__" "set_iterator.__next__":=.of (owner:="set_iterator") (n:="__next__") (by rw[typeLookup_type,builtinLookup_eq_fast];kernel_rfl) (by decide +kernel) (by decide +kernel) (by decide +kernel) (by first | exact .inl (by decide +kernel) | exact .inr (by decide +kernel)) (by rw[isSubtype_type];kernel_rfl)
theorem jbM:entryFor table "set_iterator.__next__"=some Builtin.«set_iterator.__next__»:=entryFor_of_tree (by kernel_rfl)
theorem jhq:Manifest.owners.lookup (String.ofList ['r','o','t','a','r','e','t','i','_','t','e','s'].reverse)=some Manifest.sig_set_iterator:=by kernel_rfl
theorem jfw (a:Value):argsOk "set_iterator.__next__" ⟨[a],[]⟩:=by
 unfold argsOk;rw[signature?_of (id:="set_iterator.__next__") (n:=['_','_','t','x','e','n','_','_']) (o:=['r','o','t','a','r','e','t','i','_','t','e','s']) (by kernel_rfl) jhq]
 kernel_rfl
theorem jgc (a:Value):argsOk "set_iterator.__iter__" ⟨[a],[]⟩:=by
 unfold argsOk;rw[signature?_of (id:="set_iterator.__iter__") (n:=['_','_','r','e','t','i','_','_']) (o:=['r','o','t','a','r','e','t','i','_','t','e','s']) (by kernel_rfl) jhq]
 kernel_rfl
theorem jc8:entryFor table "set.__iter__"=some Builtin.«frozenset.__iter__»:=entryFor_alias (id':="frozenset.__iter__") (by kernel_rfl) rfl (by decide +kernel) (by kernel_rfl)
def SIt (h:Heap) (I:Addr) (first:Value) (i:Nat) (a:Addr) (n ep:Nat):Prop:=∃o,h.get? I=some o/\o.cls=.type "set_iterator"/\o.data=.fields #[first,rawInt i,.ref a,rawInt n,rawInt ep]
theorem SIt.type {s:Shared} {I first i a n ep} (x:SIt s.heap I first i a n ep):s.TypeIs (.ref I) "set_iterator":=let ⟨o,ho,hc,_⟩:=x;⟨o,ho,hc⟩
theorem SIt.at' {h h':Heap} {I first i a n ep} (x:SIt h I first i a n ep) (k:∀o,h.get? I=some o->h'.get? I=some o):SIt h' I first i a n ep:=let ⟨o,ho,r⟩:=x;⟨o,k _ ho,r⟩
section
variable {P:Program} {w:World} {A:Around} {E:Value->Shared->Prop} {s:Shared} {I a:Addr} {es:Array (Int × Value)} {ep:Nat} {t:SetTable}
theorem jjh {i slot next:Nat} {x:Value} {Q:Option Value->Shared->Prop} (it:SIt s.heap I (rawInt slot) i a es.size ep) (ha:s.heap.get? a=some { cls:=.type "set",data:=.set es ep t }) (hf:t.fits es.size=true) (hN:∀{A:Around} {E:Value->Shared->Prop} {Q:Option (Value × Nat)->Shared->Prop},Q (some (x,next)) s->wpAny (model P w) A (setNext a slot i ep) Q E s)
  (q:∀h',SIt h' I (rawInt next) (i+1) a es.size ep->Heap.SameBut I s.heap h'->Q (some x) { s with heap:=h' }):wpAny (model P w) A (pyNext (.ref I)) Q E s:=by
 obtain⟨o,ho,hc,hd⟩:=id it;unfold pyNext;refine wpAny_bind (wpAny_attempt (wpAny_callSpecial?_slot (name:=Str.ofString "__next__") it.type si_next (wpAny_call_entry si_next it.type jbM ?_ (jfw _))));unfold Builtin.«set_iterator.__next__»;refine wpAny_bind (wpAny_pure (wpAny_bind (wpAny_fieldsOf ho hd ?_)));show wpAny _ _ (setEntries a >>= _) _ _ s;refine wpAny_bind (wpAny_setEntries_of ha rfl hf ?_);rw[if_neg (by simp)];show wpAny _ _ (setNext a (Int.toNat (slot:Int)) (Int.toNat (i:Int)) (Int.toNat (ep:Int)) >>= _) _ _ s;rw[xaU,xaU,xaU];refine wpAny_bind (hN ?_);show wpAny _ _ (setField (.ref I) 0 (rawInt next) >>= _) _ _ s;refine wpAny_bind (wpAny_setField ho hd (by simp) ?_);have g1:=Heap.get?_update_self (Obj.mapFields (·.setIfInBounds 0 (rawInt next))) ho (Obj.isFreed_of_fields (Obj.data_mapFields hd _));have d1:(Obj.mapFields (·.setIfInBounds 0 (rawInt next)) o).data=.fields #[rawInt next,rawInt i,.ref a,rawInt es.size,rawInt ep]:=by rw[Obj.data_mapFields hd];simp
 refine wpAny_bind (wpAny_setField g1 d1 (by simp) (wpAny_pure ?_));have g2:=Heap.get?_update_self (Obj.mapFields (·.setIfInBounds 1 (rawInt ((i:Int)+1)))) g1 (Obj.isFreed_of_fields (Obj.data_mapFields d1 _));exact⟨_,rfl,wpAny_pure (q _ ⟨_,g2,(Obj.cls_mapFields ..).trans ((Obj.cls_mapFields ..).trans hc),by rw[Obj.data_mapFields d1];simp [rawInt]⟩ ((Heap.SameBut.update ..).trans (Heap.SameBut.update ..)))⟩
theorem jgd {B:Around} {R:Except Value (Option Value)->Shared->Prop} (hh:B.handled=none) (h:∀e h',(∀b o,s.heap.get? b=some o->h'.get? b=some o)->(∃o,h'.get? e=some o/\o.cls=.type "StopIteration")->R (.error (.ref e)) { s with heap:=h' }):wpAny (model P w) B (newExc (.type "StopIteration") [] >>= fun e=>(raiseNew e:Sem Fin)) (fun _ _=>False) (fun e s'=>R (.error e) s') s:=by
 refine wpAny_bind ?_;simp only[newExc,newTuple];refine wpAny_bind (wpAny_newObj_type ?_ (by size_fits));refine wpAny_bind (m:=firstArgMember _ _) (wpAny_of_eq (a:=Value.none) (by first | rfl | (simp only[firstArgMember];rfl)) ?_);refine wpAny_newObj_type ?_ (by size_fits);simp only[raiseNew];refine wpAny_bind (wpAny_handled ?_);rw[hh];exact wpAny_bind (wpAny_pure (wpAny_throw (h _ _ (fun b o e=>Heap.get?_push_of_some _ (Heap.get?_push_of_some _ e)) ⟨_,Heap.get?_push_size _ rfl,rfl⟩)))
theorem jlc {i slot:Nat} {Q:Option Value->Shared->Prop} (hh:A.handled=none) (it:SIt s.heap I (rawInt slot) i a es.size ep) (ha:s.heap.get? a=some { cls:=.type "set",data:=.set es ep t }) (hf:t.fits es.size=true) (hN:∀{A:Around} {E:Value->Shared->Prop} {Q:Option (Value × Nat)->Shared->Prop},Q none s->wpAny (model P w) A (setNext a slot i ep) Q E s)
  (q:∀h',Heap.ExtBut I s.heap h'->Q none { s with heap:=h' }):wpAny (model P w) A (pyNext (.ref I)) Q E s:=by
 obtain⟨o,ho,hc,hd⟩:=id it;unfold pyNext;refine wpAny_bind (wpAny_attempt (wpAny_callSpecial?_slot (name:=Str.ofString "__next__") it.type si_next (wpAny_call_entry si_next it.type jbM ?_ (jfw _))));unfold Builtin.«set_iterator.__next__»;refine wpAny_bind (wpAny_pure (wpAny_bind (wpAny_fieldsOf ho hd ?_)));show wpAny _ _ (setEntries a >>= _) _ _ s;refine wpAny_bind (wpAny_setEntries_of ha rfl hf ?_);rw[if_neg (by simp)];show wpAny _ _ (setNext a (Int.toNat (slot:Int)) (Int.toNat (i:Int)) (Int.toNat (ep:Int)) >>= _) _ _ s;rw[xaU,xaU,xaU];refine wpAny_bind (hN ?_);show wpAny _ _ (setField (.ref I) 2 .none >>= _) _ _ s;refine wpAny_bind (wpAny_setField ho hd (by simp) ?_);refine wpAny_mono (jgd (R:=fun r s'=>∀e,r=.error e->wpAny (model P w) A (do if <- isInstance e (.type "StopIteration") then pure none else throw e) Q E s') hh fun e h' k ⟨o',ho',hc'⟩ e2 z=>?_) (fun _ _ z=>z.elim) fun e s' z=>z e rfl;cases z;refine wpAny_bind (wpAny_isInstance (T:="StopIteration") (b:=true) ⟨_,ho',hc'⟩ isSubtype_stop ?_);exact wpAny_pure (q _ fun b o hb e=>k b o ((Heap.get?_update_other _ _ (Ne.symm hb)).trans e))
end
theorem jji {α:Type} {next:Nat->Nat}:∀(f k:Nat) (left:List α) (out:Array α),left.length=f->(pickOrder.go next f k left out).toList.Perm (out.toList++left)
  | 0, k, left, out, h => by
    rw[xa5.mp h,xbx];exact .rfl
  | f + 1, k, left, out, h => by
    unfold pickOrder.go;have hl:next k % left.length<left.length:=xaL _ (by omega);rw[xab hl];refine (jji f (k+1) _ _ (by rw[xbT hl];omega)).trans ?_;rw[Array.toList_push,xbu];refine List.Perm.append_left _ ?_;rw[xa6];refine List.Perm.trans ?_ (.of_eq (xaW (next k % left.length) left));rw[xbU hl];rw[List.singleton_append];exact List.perm_middle.symm
theorem jge {α:Type} (next:Nat->Nat) (xs:Array α):(pickOrder next xs).toList.Perm xs.toList:=by
 have:=jji (next:=next) xs.size 0 xs.toList #[] (by rw[Array.length_toList]);exact this
section
variable {P:Program} {w:World} {A:Around} {E:Value->Shared->Prop} {s:Shared} {I a:Addr} {es:Array (Int × Value)} {ep:Nat} {t:SetTable}
theorem jcF {Q:Bool->Shared->Prop} (h:Q (byT w) s):wpAny (model P w) A setsByText Q E s:=by
 unfold setsByText;exact wpAny_bind (wpAny_askSetting (wpAny_pure h))
theorem jjj {slot i:Nat} {Q:Option (Value × Nat)->Shared->Prop} (hb:byT w=true) (ha:s.heap.get? a=some { cls:=.type "set",data:=.set es ep t }) (hf:t.fits es.size=true) (q:Q (((pickOrder (w.params.setOrder a ep) es)[i]?).map fun e=>(e.2,slot)) s):wpAny (model P w) A (setNext a slot i ep) Q E s:=by
 unfold setNext;refine wpAny_bind (wpAny_setState_of ha rfl hf ?_);refine wpAny_bind (jcF ?_);rw[hb,if_pos rfl,if_neg (by simp)];refine wpAny_bind ?_;unfold setWalk;refine wpAny_bind (wpAny_setState_of ha rfl hf ?_);refine wpAny_bind (jcF ?_);rw[hb,if_pos rfl];exact wpAny_bind (wpAny_askSetting (wpAny_pure (wpAny_pure q)))
theorem jih {slot i:Nat} {Q:Option (Value × Nat)->Shared->Prop} (hb:byT w=false) (hl:t.led=true) (hd:(!t.plain&&decide (es.size>1))=false) (ha:s.heap.get? a=some { cls:=.type "set",data:=.set es ep t }) (hf:t.fits es.size=true) (q:Q (match es[SetTable.below t.place slot]?,t.place[SetTable.below t.place slot]? with | some (_,x),some j=>some (x,j+1) | _,_=>none) s):wpAny (model P w) A (setNext a slot i ep) Q E s:=by
 unfold setNext;refine wpAny_bind (wpAny_setState_of ha rfl hf ?_);refine wpAny_bind (jcF ?_);rw[hb,if_neg (by decide)];refine wpAny_ite_split (fun z=>absurd (show (!t.plain&&decide (es.size>1))=true from z) (by rw[hd];decide)) fun _=>?_;refine wpAny_bind (wpAny_ite_split (fun z=>absurd (show (!t.led&&!es.isEmpty)=true from z) (by rw[hl];simp)) fun _=>wpAny_pure ?_);exact wpAny_pure q
theorem jld {xs:Array Nat} (R:Rise xs) {i:Nat}:SetTable.below xs (if i=0 then 0 else xs.getD (i-1) 0+1)=if i<=xs.size then i else SetTable.below xs 1:=by
 by_cases c:i<=xs.size
 ·rw[if_pos c];by_cases z:i=0
  ·rw[if_pos z,z];obtain⟨b1,b2,b3⟩:=blw (j:=0) R;rcases Nat.eq_zero_or_pos (SetTable.below xs 0) with h | h
   ·exact h
   ·exact absurd (b2 0 h) (xaR _)
  ·rw[if_neg z];obtain⟨b1,b2,b3⟩:=blw (j:=xs.getD (i-1) 0+1) R;rcases Nat.lt_trichotomy (SetTable.below xs (xs.getD (i-1) 0+1)) i with h | h | h
   ·have h1:=b3 (i-1) (by omega) (by omega);omega
   ·exact h
   ·have h1:=b2 i h;have h2:=R (i-1) i (by omega) (by omega);omega
 ·rw[if_neg c,if_neg (by omega)];rw[show xs.getD (i-1) 0=0 by rw[Array.getD_eq_getD_getElem?,Array.getElem?_eq_none (by omega)];rfl]
theorem jfx:entryFor table "set_iterator.__iter__"=some Builtin.«dict_keyiterator.__iter__»:=entryFor_alias (id':="dict_keyiterator.__iter__") (by kernel_rfl) rfl (by decide +kernel) (by kernel_rfl)
theorem jgf {first:Value} {i n:Nat} {Q:Value->Shared->Prop} (it:SIt s.heap I first i a n ep) (h:Q (.ref I) s):wpAny (model P w) A (pyIter (.ref I)) Q E s:=by
 refine wpAny_pyIter_slot it.type jjg (wpAny_call_entry jjg it.type jfx ?_ (jgc _));show wpAny _ _ (ret (.ref I)) _ _ s;exact wpAny_pure ⟨_,rfl,"set_iterator",_,it.type,si_next.lookup,h⟩
theorem jle (hh:A.handled=none) (nI:a≠I) (hf:t.fits es.size=true) (tb:Tb (byT w) t) (hd:(!byT w&&(!t.plain&&decide (es.size>1)))=false):∃(ord:List Value) (slot:Nat->Nat),ord.Perm (es.toList.map (·.2))/\slot 0=0/\WalksS P w A I [I,a] [I] (fun x y=>y=x) es.size (fun i v=>ord[i]?=some v) (fun i s=>SIt s.heap I (rawInt (slot i)) i a es.size ep/\s.heap.get? a=some { cls:=.type "set",data:=.set es ep t }):=by
 have base:∀(ord:List Value) (slot:Nat->Nat),ord.Perm (es.toList.map (·.2))->(∀(i:Nat) (s:Shared) {A:Around} {E:Value->Shared->Prop} {Q:Option (Value × Nat)->Shared->Prop},i<=es.size->s.heap.get? a=some { cls:=.type "set",data:=.set es ep t }->Q (ord[i]?.map fun x=>(x,slot (i+1))) s->wpAny (model P w) A (setNext a (slot i) i ep) Q E s)->WalksS P w A I [I,a] [I] (fun x y=>y=x) es.size (fun i v=>ord[i]?=some v) (fun i s=>SIt s.heap I (rawInt (slot i)) i a es.size ep/\s.heap.get? a=some { cls:=.type "set",data:=.set es ep t }):=fun ord slot pm hN=>by
  have lo:ord.length=es.size:=by rw[pm.length_eq,xaa,Array.length_toList]
  have si:∀b,b∈[I]->b∈[I,a]:=fun b hb=>by rw[xam.mp hb];exact .head _
  exact {
   sub:=si
   grefl:=fun _=>rfl
   gtrans:=fun _ _ _ h1 h2=>h2.trans h1
   frame:=fun i s h' tk st _ k=>⟨st.1.at' fun o e=>k I (.head _) o e,k a (.tail _ (.head _)) _ st.2⟩
   item:=fun i s Q E hi st q=>by
    obtain⟨x,hx⟩:∃x,ord[i]?=some x:=⟨_,xab (by rw[lo];exact hi)⟩;refine jjh (next:=slot (i+1)) (x:=x) st.1 st.2 hf (fun {A E Q} q=>hN i s (xa1 hi) st.2 (by rw[hx];exact q)) fun h' it sb=>?_;exact q x _ hx ⟨it,(sb.2 a nI).trans st.2⟩ ⟨fun b o hb e=>(sb.2 b fun z=>hb (z▸.head _)).trans e,rfl,rfl,rfl,xae _⟩
   done:=fun s Q E st q=>by
    refine jlc hh st.1 st.2 hf (fun {A E Q} q=>hN es.size s (xae _) st.2 (by rw[xaF (by rw[lo];exact xae _)];exact q)) fun h' sb=>?_;exact q _ ⟨fun b o hb e=>sb b o (fun z=>hb (z▸.head _)) e,rfl,rfl,rfl,xae _⟩
   self:=fun i s Q E st q=>jgf st.1 q }
 by_cases hb:byT w=true
 ·refine⟨(pickOrder (w.params.setOrder a ep) es).toList.map (·.2),fun _=>0,(jge _ _).map _,rfl,base _ _ ((jge _ _).map _) fun i s A E Q hi ha q=>?_⟩;refine jjj hb ha hf ?_;rw[xaf,Array.getElem?_toList] at q;cases e:(pickOrder (w.params.setOrder a ep) es)[i]? with
  | none=>rw[e] at q;exact q
  | some v=>rw[e] at q;exact q
 ·have hb:byT w=false:=by cases e:byT w;rfl;exact absurd e hb
  rw[hb] at hd;have hl:t.led=true:=by rw[tb.led,hb];rfl
  have fs:t.place.size=es.size:=by
   unfold SetTable.fits at hf;rw[xbM] at hf;exact eq_of_beq hf.1
  refine⟨es.toList.map (·.2),fun i=>if i=0 then 0 else t.place.getD (i-1) 0+1,.rfl,rfl,base _ _ .rfl fun i s A E Q hi ha q=>?_⟩;refine jih hb hl hd ha hf ?_;rw[jld tb.rise,if_pos (by omega)];rw[xaf,Array.getElem?_toList] at q;rcases xcs i es.size with c | c
  ·rw[Array.getElem?_eq_getElem c,Array.getElem?_eq_getElem (by omega)];rw[Array.getElem?_eq_getElem c] at q;rw[if_neg (Nat.succ_ne_zero i),Nat.add_sub_cancel,Array.getD_eq_getD_getElem?,Array.getElem?_eq_getElem (show i<t.place.size by omega)] at q;exact q
  ·rw[Array.getElem?_eq_none c];rw[Array.getElem?_eq_none c] at q;exact q
theorem jlf {Q:Bool->Shared->Prop} (hT:s.TypeIs (.ref a) "set") (h:Q false s):wpAny (model P w) A (Builtin.List.listLengthHint (.ref a)) Q E s:=by
 unfold Builtin.List.listLengthHint;refine wpAny_bind (wpAny_specialOf hT F.slot_set_len.lookup ?_);generalize hid:("set.__len__":String)=id0
 wp_delta
 rw[show splitId id0=some ("set","__len__") by subst hid;decide +kernel];subst hid;refine wpAny_bind (wpAny_isInstance (T:="set") (b:=true) hT sub_set_self ?_);refine wpAny_ite_split (fun z=>absurd z (by decide)) fun _=>?_;refine wpAny_ite_split (fun _=>wpAny_bind (wpAny_typeOf hT (wpAny_pure h))) fun z=>absurd (by decide +kernel) z
theorem jlg {Q:Value->Shared->Prop} (ha:s.heap.get? a=some { cls:=.type "set",data:=.set es ep t }) (hf:t.fits es.size=true) (hd:(!byT w&&(!t.plain&&decide (es.size>1)))=false) (q:∀o,o.cls=.type "set_iterator"->o.data=.fields #[rawInt 0,rawInt 0,.ref a,rawInt es.size,rawInt ep]->Q (.ref s.heap.objs.size) { s with heap:=s.heap.push o }):wpAny (model P w) A (pyIter (.ref a)) Q E s:=by
 have hT:s.TypeIs (.ref a) "set":=⟨_,ha,rfl⟩;refine wpAny_pyIter_slot hT F.slot_set_iter (wpAny_call_entry F.slot_set_iter hT jc8 ?_ (F.args_set_iter_1 _));unfold Builtin.«frozenset.__iter__»;refine wpAny_bind (wpAny_pure (wpAny_bind ?_));show wpAny _ _ (setEntries a >>= fun es'=>pure es'.size) _ _ s;refine wpAny_bind (wpAny_setEntries_of ha rfl hf (wpAny_pure ?_));refine wpAny_bind ?_;unfold setDrawn;refine wpAny_bind (wpAny_setState_of ha rfl hf (wpAny_bind (jcF (wpAny_pure ?_))));refine wpAny_ite_split (fun z=>absurd (show (!byT w&&(!t.plain&&decide (es.size>1)))=true from z) (by rw[hd];decide)) fun _=>?_;refine wpAny_bind (wpAny_pure (wpAny_bind (wpAny_setEpoch_of ha rfl hf (wpAny_bind ?_))));exact wpAny_newObj_type (wpAny_pure ⟨_,rfl,"set_iterator",_,⟨_,Heap.get?_push_size _ rfl,rfl⟩,si_next.lookup,q _ rfl rfl⟩)
end
section
variable {P:Program} {w:World} {A:Around} {E:Value->Shared->Prop} {s:Shared} {I T a:Addr} {es:Array (Int × Value)} {ep:Nat} {t:SetTable}
theorem jii {src:Source} {n:Nat} {Q:Nat->Shared->Prop} (hn:n≠0) (q:∀i d,i<n->Q i { s with drawn:=d }):wpAny (model P w) A (choose src n) Q E s:=fun Γ p hΓ=>by
 show Sem.wp _ _ (Sem.choose src n Sem.pure) _ _ p s;rw[Sem.wp_choose];refine⟨hn,?_⟩;exact wpAny_pure (M:=model P w) (A:=A) (E:=E) (q _ _ (xaL _ (Nat.pos_of_ne_zero hn))) Γ p hΓ
theorem je1 {α:Type}:∀(n:Nat) (xs:List α) (s:Shared) (Q:List α->Shared->Prop),xs.length=n->(∀ys d,ys.Perm xs->Q ys { s with drawn:=d })->wpAny (model P w) A (drawOrder n xs) Q E s
  | 0, xs, s, Q, h, q => by
    rw[xa5.mp h] at q;exact wpAny_pure (q [] s.drawn .rfl)
  | n+1,[],s,Q,h,q=>by cases h
  | n + 1, x :: xs, s, Q, h, q => by
    unfold drawOrder;refine wpAny_bind (jii (by rw[h];omega) fun i d hi=>?_);rw[xab hi];refine wpAny_bind (je1 n _ _ _ (by rw[xbT hi];omega) fun ys d' pm=>?_);refine wpAny_pure (q _ d' ?_);refine (pm.cons _).trans ?_;rw[xa6];refine List.Perm.trans ?_ (.of_eq (xaW i (x::xs)));rw[xbU hi];exact List.perm_middle.symm
def TupNat (h:Heap) (T:Addr) (ks:List Nat):Prop:=∃o n,h.get? T=some o/\o.data=.seq (ks.map fun (k:Nat)=>rawInt k).toArray n
theorem jij {i:Nat} {ks:List Nat} {k:Nat} {z:Int} {x:Value} {Q:Option Value->Shared->Prop} (it:SIt s.heap I (.ref T) i a es.size ep) (ht:TupNat s.heap T ks) (hk:ks[i]?=some k) (hx:es[k]?=some (z,x)) (ha:s.heap.get? a=some { cls:=.type "set",data:=.set es ep t }) (hf:t.fits es.size=true)
  (q:∀h',SIt h' I (.ref T) (i+1) a es.size ep->Heap.SameBut I s.heap h'->Q (some x) { s with heap:=h' }):wpAny (model P w) A (pyNext (.ref I)) Q E s:=by
 obtain⟨o,ho,hc,hd⟩:=id it;obtain⟨oT,nT,hT,dT⟩:=ht;unfold pyNext;refine wpAny_bind (wpAny_attempt (wpAny_callSpecial?_slot (name:=Str.ofString "__next__") it.type si_next (wpAny_call_entry si_next it.type jbM ?_ (jfw _))));unfold Builtin.«set_iterator.__next__»;refine wpAny_bind (wpAny_pure (wpAny_bind (wpAny_fieldsOf ho hd ?_)));show wpAny _ _ (setEntries a >>= _) _ _ s;refine wpAny_bind (wpAny_setEntries_of ha rfl hf ?_);rw[if_neg (by simp)];show wpAny _ _ (seqItems? (.ref T) >>= _) _ _ s;refine wpAny_bind (wpAny_seqItems hT dT ?_);dsimp only;have e1:(ks.map fun (k:Nat)=>rawInt k).toArray[((i:Nat):Int).toNat]?=some (rawInt k):=by
  rw[xaU,xbS,xaf,hk];rfl
 rw[e1];show wpAny _ _ (setNextDrawn a (Int.toNat (k:Int)) (Int.toNat (ep:Int)) >>= _) _ _ s;rw[xaU,xaU];refine wpAny_bind ?_;unfold setNextDrawn;refine wpAny_bind (wpAny_setState_of ha rfl hf ?_);dsimp only;rw[if_neg (by simp),hx];refine wpAny_pure (wpAny_bind (wpAny_setField ho hd (by simp) (wpAny_pure ?_)));have g1:=Heap.get?_update_self (Obj.mapFields (·.setIfInBounds 1 (rawInt ((i:Int)+1)))) ho (Obj.isFreed_of_fields (Obj.data_mapFields hd _));exact⟨_,rfl,wpAny_pure (q _ ⟨_,g1,(Obj.cls_mapFields ..).trans hc,by rw[Obj.data_mapFields hd];simp [rawInt]⟩ (Heap.SameBut.update ..))⟩
theorem jjk {i:Nat} {ks:List Nat} {Q:Option Value->Shared->Prop} (hh:A.handled=none) (it:SIt s.heap I (.ref T) i a es.size ep) (ht:TupNat s.heap T ks) (hk:ks[i]?=none) (ha:s.heap.get? a=some { cls:=.type "set",data:=.set es ep t }) (hf:t.fits es.size=true)
  (q:∀h',Heap.ExtBut I s.heap h'->Q none { s with heap:=h' }):wpAny (model P w) A (pyNext (.ref I)) Q E s:=by
 obtain⟨o,ho,hc,hd⟩:=id it;obtain⟨oT,nT,hT,dT⟩:=ht;unfold pyNext;refine wpAny_bind (wpAny_attempt (wpAny_callSpecial?_slot (name:=Str.ofString "__next__") it.type si_next (wpAny_call_entry si_next it.type jbM ?_ (jfw _))));unfold Builtin.«set_iterator.__next__»;refine wpAny_bind (wpAny_pure (wpAny_bind (wpAny_fieldsOf ho hd ?_)));show wpAny _ _ (setEntries a >>= _) _ _ s;refine wpAny_bind (wpAny_setEntries_of ha rfl hf ?_);rw[if_neg (by simp)];show wpAny _ _ (seqItems? (.ref T) >>= _) _ _ s;refine wpAny_bind (wpAny_seqItems hT dT ?_);dsimp only;have e1:(ks.map fun (k:Nat)=>rawInt k).toArray[((i:Nat):Int).toNat]?=none:=by
  rw[xaU,xbS,xaf,hk];rfl
 rw[e1];refine wpAny_bind (wpAny_setField ho hd (by simp) ?_);have g1:=Heap.get?_update_self (Obj.mapFields (·.setIfInBounds 0 (rawInt 0))) ho (Obj.isFreed_of_fields (Obj.data_mapFields hd _));have d1:(Obj.mapFields (·.setIfInBounds 0 (rawInt 0)) o).data=.fields #[rawInt 0,rawInt i,.ref a,rawInt es.size,rawInt ep]:=by rw[Obj.data_mapFields hd];simp
 refine wpAny_bind (wpAny_setField g1 d1 (by simp) ?_);refine wpAny_mono (jgd (R:=fun r s'=>∀e,r=.error e->wpAny (model P w) A (do if <- isInstance e (.type "StopIteration") then pure none else throw e) Q E s') hh fun e h' k ⟨o',ho',hc'⟩ e2 z=>?_) (fun _ _ z=>z.elim) fun e s' z=>z e rfl;cases z;refine wpAny_bind (wpAny_isInstance (T:="StopIteration") (b:=true) ⟨_,ho',hc'⟩ isSubtype_stop ?_);exact wpAny_pure (q _ fun b o hb e=>k b o ((Heap.get?_update_other _ _ (Ne.symm hb)).trans ((Heap.get?_update_other _ _ (Ne.symm hb)).trans e)))
theorem TupNat.at' {h h':Heap} {ks:List Nat} (x:TupNat h T ks) (k:∀o,h.get? T=some o->h'.get? T=some o):TupNat h' T ks:=let ⟨o,n,ho,r⟩:=x;⟨o,n,k _ ho,r⟩
theorem jik (hh:A.handled=none) (nI:a≠I) (nT:T≠I) (hf:t.fits es.size=true) {ks:List Nat} (pm:ks.Perm (List.range es.size)):∃ord:List Value,ord.Perm (es.toList.map (·.2))/\WalksS P w A I [I,a,T] [I] (fun x y=>y=x) es.size (fun i v=>ord[i]?=some v) (fun i s=>SIt s.heap I (.ref T) i a es.size ep/\TupNat s.heap T ks/\s.heap.get? a=some { cls:=.type "set",data:=.set es ep t }):=by
  have lk:ks.length=es.size:=by rw[pm.length_eq,xaV]
  have mk:∀k∈ks,k<es.size:=fun k hk=>xaY.mp (pm.mem_iff.mp hk);refine⟨(ks.filterMap fun k=>es[k]?).map (·.2),?_,?_⟩
  . refine List.Perm.map _ ((pm.filterMap _).trans ?_)
    rw[filterMap_getElem?_range]
  have fm:∀(ks:List Nat),(∀k∈ks,k<es.size)->∀i:Nat,(ks.filterMap fun k=>es[k]?)[i]?=(ks[i]?).bind fun k=>es[k]?:=fun ks=>by
    induction ks with
    | nil=>exact fun _ _=>rfl
    | cons k ks ih =>
      intro h i;have hk:=h k (.head _);rw[List.filterMap_cons_some (b:=es[k]) (Array.getElem?_eq_getElem hk)];cases i with
      | zero=>exact (Array.getElem?_eq_getElem hk).symm
      | succ i =>
        rw[xbt,xbt];exact ih (fun x hx=>h x (.tail _ hx)) i
  exact {
    sub:=fun b hb=>by rw[xam.mp hb];exact .head _
    grefl:=fun _=>rfl
    gtrans:=fun _ _ _ h1 h2=>h2.trans h1
    frame:=fun i s h' tk st _ k=>⟨st.1.at' fun o e=>k I (.head _) o e,st.2.1.at' fun o e=>k T (.tail _ (.tail _ (.head _))) o e,k a (.tail _ (.head _)) _ st.2.2⟩
    item:=fun i s Q E hi st q=>by
      have hk:ks[i]?=some (ks[i]'(by omega)):=xab _;have lt:=mk _ (xa2 (show i<ks.length by omega));have hx:es[ks[i]'(by omega)]?=some ((es[ks[i]'(by omega)]).1,(es[ks[i]'(by omega)]).2):=Array.getElem?_eq_getElem lt;refine jij st.1 st.2.1 hk hx st.2.2 hf fun h' it sb=>?_;exact q _ _ (by rw[xaf,fm ks mk,hk];exact congrArg (Option.map (·.2)) hx) ⟨it,st.2.1.at' fun o e=>(sb.2 T nT).trans e,(sb.2 a nI).trans st.2.2⟩ ⟨fun b o hb e=>(sb.2 b fun z=>hb (z▸.head _)).trans e,rfl,rfl,rfl,xae _⟩
    done:=fun s Q E st q=>by
      refine jjk hh st.1 st.2.1 (xaF (by omega)) st.2.2 hf fun h' sb=>?_;exact q _ ⟨fun b o hb e=>sb b o (fun z=>hb (z▸.head _)) e,rfl,rfl,rfl,xae _⟩
    self:=fun i s Q E st q=>jgf st.1 q }
theorem jil {Q:Value->Shared->Prop} (hz:es.size<=sizeLine) (ha:s.heap.get? a=some { cls:=.type "set",data:=.set es ep t }) (hf:t.fits es.size=true) (hd:(!byT w&&(!t.plain&&decide (es.size>1)))=true) (q:∀(ks:List Nat) d oT o,ks.Perm (List.range es.size)->oT.data=.seq (ks.map fun (k:Nat)=>rawInt k).toArray 0->o.cls=.type "set_iterator"->o.data=.fields #[.ref s.heap.objs.size,rawInt 0,.ref a,rawInt es.size,rawInt ep]->Q (.ref (s.heap.objs.size+1)) { s with heap:=(s.heap.push oT).push o,drawn:=d }):wpAny (model P w) A (pyIter (.ref a)) Q E s:=by
 have hT:s.TypeIs (.ref a) "set":=⟨_,ha,rfl⟩;refine wpAny_pyIter_slot hT F.slot_set_iter (wpAny_call_entry F.slot_set_iter hT jc8 ?_ (F.args_set_iter_1 _));unfold Builtin.«frozenset.__iter__»;refine wpAny_bind (wpAny_pure (wpAny_bind ?_));show wpAny _ _ (setEntries a >>= fun es'=>pure es'.size) _ _ s;refine wpAny_bind (wpAny_setEntries_of ha rfl hf (wpAny_pure ?_));refine wpAny_bind ?_;unfold setDrawn;refine wpAny_bind (wpAny_setState_of ha rfl hf (wpAny_bind (jcF (wpAny_pure ?_))));refine wpAny_ite_split (fun _=>?_) fun z=>absurd (show (!byT w&&(!t.plain&&decide (es.size>1)))=true from hd) z;refine wpAny_bind (je1 _ _ _ _ xaV fun ks d pm=>wpAny_bind ?_);refine wpAny_newTuple ?_ (by rw[xaa,pm.length_eq,xaV];exact hz);have ga:(s.heap.push { cls:=.type "tuple",data:=.seq (ks.map fun (k:Nat)=>rawInt k).toArray }).get? a=some { cls:=.type "set",data:=.set es ep t }:=Heap.get?_push_of_some _ ha;refine wpAny_bind (wpAny_setEpoch_of (s:={ s with heap:=s.heap.push _,drawn:=d }) ga rfl hf (wpAny_bind ?_));refine wpAny_newObj_type (wpAny_pure ⟨_,rfl,"set_iterator",_,⟨_,Heap.get?_push_size _ rfl,rfl⟩,si_next.lookup,?_⟩);have:=q ks d { cls:=.type "tuple",data:=.seq (ks.map fun (k:Nat)=>rawInt k).toArray } { cls:=.type "set_iterator",data:=.fields #[.ref s.heap.objs.size,rawInt 0,.ref a,rawInt es.size,rawInt ep] } pm rfl rfl rfl;rw[<- Heap.size_push s.heap { cls:=.type "tuple",data:=.seq (ks.map fun (k:Nat)=>rawInt k).toArray }] at this;exact this
def Going (P:Program) (w:World) (a:Addr) (es:Array (Int × Value)) (s0:Shared) (v:Value) (s:Shared):Prop:=∃I h d,v=.ref I/\s={ s0 with heap:=h,drawn:=d }/\s0.heap.objs.size<=I/\(∀b o,s0.heap.get? b=some o->h.get? b=some o)/\∀B:Around,B.handled=none->∃(fp:List Addr) (ord:List Value) (St:Nat->Shared->Prop),WalksS P w B I fp [I] (fun x y=>y=x) es.size (fun i v=>ord[i]?=some v) St/\ord.Perm (es.toList.map (·.2))/\(∀b∈fp,b=a\/s0.heap.objs.size<=b)/\St 0 s
theorem jlh {ns:List Int} (x:SI (byT w) s.heap a ns ep es t) (hz:es.size<=sizeLine):wpAny (model P w) A (pyIter (.ref a)) (Going P w a es s) E s:=by
 have aS:a<s.heap.objs.size:=Heap.lt_size x.get;by_cases hd:(!byT w&&(!t.plain&&decide (es.size>1)))=true
 ·refine jil hz x.get x.fit hd fun ks d oT o pm dT hc dI=>⟨_,_,_,rfl,rfl,xbP _,fun b o e=>Heap.get?_push_of_some _ (Heap.get?_push_of_some _ e),fun B hB=>?_⟩;have sT:(s.heap.push oT).objs.size=s.heap.objs.size+1:=Heap.size_push ..;obtain⟨ord,op,W⟩:=jik (P:=P) (w:=w) (A:=B) (I:=s.heap.objs.size+1) (T:=s.heap.objs.size) (a:=a) (es:=es) (ep:=ep) (t:=t) hB (xan (xa4 aS)) (xan (xcg _)) x.fit pm;refine⟨_,ord,_,W,op,fun b hb=>?_,⟨o,?_,hc,dI⟩,⟨oT,0,Heap.get?_push_of_some _ (Heap.get?_push_size _ (by cases oT;cases dT;rfl)),dT⟩,Heap.get?_push_of_some _ (Heap.get?_push_of_some _ x.get)⟩
  ·rcases xap.mp hb with rfl | hb
   ·exact .inr (xbP _)
   ·rcases xap.mp hb with rfl | hb
    ·exact .inl rfl
    ·exact .inr (xco (xam.mp hb).symm)
  ·rw[<- sT];exact Heap.get?_push_size _ (by cases o;cases dI;rfl)
 ·have hd:(!byT w&&(!t.plain&&decide (es.size>1)))=false:=Bool.not_eq_true _▸hd;refine jlg x.get x.fit hd fun o hc dI=>⟨_,_,s.drawn,rfl,rfl,xae _,fun b o e=>Heap.get?_push_of_some _ e,fun B hB=>?_⟩;obtain⟨ord,slot,op,s0,W⟩:=jle (P:=P) (w:=w) (A:=B) (I:=s.heap.objs.size) (a:=a) (es:=es) (ep:=ep) (t:=t) hB (xan aS) x.fit x.tb hd;refine⟨_,ord,_,W,op,fun b hb=>?_,⟨o,Heap.get?_push_size _ (by cases o;cases dI;rfl),hc,by rw[s0];exact dI⟩,Heap.get?_push_of_some _ x.get⟩;rcases xap.mp hb with rfl | hb
  ·exact .inr (xae _)
  ·exact .inl (xam.mp hb)
theorem jgL {ns:List Int} {Q:List Value->Shared->Prop} (hh:A.handled=none) (x:SI (byT w) s.heap a ns ep es t) (hz:es.size<=sizeLine) (q:∀h' d tk acc,(∀b o,s.heap.get? b=some o->h'.get? b=some o)->s.heap.objs.size<h'.objs.size->acc.Perm (es.toList.map (·.2))->Q acc { s with heap:=h',drawn:=d,toks:=tk }):wpAny (model P w) A (collect (.ref a)) Q E s:=by
  have aS:a<s.heap.objs.size:=Heap.lt_size x.get;unfold collect;refine wpAny_bind (wpAny_runValue (codeAny_builtin F.entry_proto_collect ?_));rw[Around.under_plainId F.plain_proto_collect _];show wpAny _ A.in1 (newList [] >>= fun l=>again (.builtin "list.__iadd__" ⟨[l,.ref a],[]⟩)) _ _ s;refine wpAny_bind (wpAny_newObj_type (wpAny_pure ⟨plainId_quiet F.plain_list_iadd _,codeAny_builtin F.entry_list_iadd ?_⟩));rw[Around.under_plainId F.plain_list_iadd _];show wpAny _ A.in1 (Builtin.List.listExtendWith (.ref s.heap.objs.size) (.ref a) (.ref s.heap.objs.size)) _ _ _;generalize hS0:({ cls:=.type "list",data:=.seq ([]:List Value).toArray }:Obj)=oS;have ga:(s.heap.push oS).get? a=some { cls:=.type "set",data:=.set es ep t }:=Heap.get?_push_of_some _ x.get;have gS:(s.heap.push oS).get? s.heap.objs.size=some { cls:=.type "list",data:=.seq #[] }:=by
    rw[<- hS0];exact Heap.get?_push_size _ rfl
  have zS:(s.heap.push oS).objs.size=s.heap.objs.size+1:=Heap.size_push ..;unfold Builtin.List.listExtendWith;refine wpAny_bind (wpAny_typeOf (T:="set") ⟨_,ga,rfl⟩ ?_);have h1:Builtin.List.listSameRef (.ref s.heap.objs.size) (.ref a)=false:=by
    simp [Builtin.List.listSameRef,xcd aS]
  have h2:(Value.type "set"==Value.type "list")=false:=by decide
  have h3:(Value.type "set"==Value.type "tuple")=false:=by decide
  simp only[h1,h2,h3,Bool.or_false,xcr,if_false];refine wpAny_bind (wpAny_mono (jlh (s:={ s with heap:=s.heap.push oS }) (x.keep fun o e=>Heap.get?_push_of_some _ e) hz) (fun v s1 z=>?_) fun _ _ e=>e);obtain⟨I,h,d,rfl,rfl,lI,k1,W'⟩:=z;obtain⟨fp,ord,St,W,op,hfp,st⟩:=W' A.in1 hh;have lo:ord.length=es.size:=by rw[op.length_eq,xaa,Array.length_toList]
  have SI':s.heap.objs.size≠I:=fun e=>by
    rw[<- e,zS] at lI;exact Nat.not_succ_le_self _ lI
  have Sf:s.heap.objs.size∉fp:=fun m=>by
    rcases hfp _ m with e | e
    . exact xcd aS e
    . rw[zS] at e;exact Nat.not_succ_le_self _ e
  have key:∀(h2:Heap) (c tk:Nat),s.toks<=tk->(∀b o,b≠s.heap.objs.size->h.get? b=some o->h2.get? b=some o)->h2.get? s.heap.objs.size=some { cls:=.type "list",data:=.seq #[] c }->codeAny (model P w) A (.builtin "list.extend.loop" ⟨[.ref s.heap.objs.size,.ref I,.ref s.heap.objs.size],[]⟩) (fun r s'=>match r with
      | .ok (.ret v) => wpAny (model P w) A (match v with
        | .ref a => do
          match (<- load a).data with
          | .seq xs _=>pure xs.toList
          | _=>unsupported "internal:collect"
        | _=>unsupported "internal:collect") Q E s'
      | .ok _=>False
      | .error e=>E e s') { s with heap:=h2,drawn:=d,toks:=tk }:=fun h2 c tk lt k2 g2=>by
    refine codeAny_extend_loopS W hz s.heap.objs.size Sf _ es.size 0 _ #[] c rfl (xaG _) ?_ g2 (ItemsOf.nil _) fun s' acc' c' hm gS' ia=>?_
    . exact W.frame 0 _ h2 tk st lt fun b hb o e=>k2 b o (fun z=>Sf (z▸hb)) e
    . refine wpAny_bind (wpAny_load gS' ?_)
      rw[Moved.eq_with hm];have ea:acc'.toList=ord:=by
        refine xbH fun i=>?_;rcases xcs i es.size with c | c
        . have hi:i < acc'.size:=by rw[ia.1]; exact c
          rw[ia.2 i (acc'[i]'hi) (Array.getElem?_eq_getElem hi),Array.getElem?_toList,Array.getElem?_eq_getElem hi]
        . rw[xaF (by rw[Array.length_toList,ia.1];exact c),xaF (by rw[lo];exact c)]
      show wpAny _ _ (pure acc'.toList) _ _ _;rw[ea];refine wpAny_pure (q s'.heap d s'.toks ord (fun b o e=>hm.heap b o (fun z=>?_) (k2 b o ?_ (k1 b o (Heap.get?_push_of_some _ e)))) (Heap.lt_size gS') op)
      . have lb:=Heap.lt_size e
        rcases xap.mp z with z | z
        . exact xan lb z
        . have:=xam.mp z
          rw[zS] at lI;exact xan (xao lb (Nat.le_of_succ_le lI)) this
      . exact xan (Heap.lt_size e)
  have gS1:=k1 _ _ gS;refine wpAny_bind (wpAny_holding (jlf ⟨_,k1 _ _ ga,rfl⟩ ?_));refine wpAny_ite_split (fun _=>?_) fun _=>wpAny_pure ⟨plainId_quiet F.plain_extend_loop _,key h 0 s.toks (xae _) (fun _ _ _ e=>e) gS1⟩;refine wpAny_bind (wpAny_rule (wpAny_bind ?_));show wpAny _ _ (updateSeq s.heap.objs.size (·.push .none) >>= fun _=>updateSeq s.heap.objs.size (·.pop)) _ _ _;refine wpAny_bind (wpAny_updateSeq gS1 rfl ?_);have g2:=Heap.get?_update_self (Obj.mapSeq (·.push Value.none)) gS1 rfl;refine wpAny_updateSeq (hz:=by seq_fits) g2 rfl ?_;have g3:=Heap.get?_update_self (Obj.mapSeq (·.pop)) g2 rfl;exact wpAny_pure ⟨plainId_quiet F.plain_extend_loop _,key _ _ s.toks (xae _) (fun b o nb e=>(Heap.get?_update_other _ _ (Ne.symm nb)).trans ((Heap.get?_update_other _ _ (Ne.symm nb)).trans e)) g3⟩
end
section
variable {P:Program} {w:World} {A:Around} {E:Value->Shared->Prop} {s:Shared} {a:Addr} {es:Array (Int × Value)} {ep:Nat} {t:SetTable}
def vi (v:Value):Int:=match v with | .int z _=>z | _=>0
theorem jim {ns:List Int} {Q:Value->Shared->Prop} (hh:A.handled=none) (x:SI (byT w) s.heap a ns ep es t) (h64:ns.length<64)
    (q:∀(h':Heap) d tk (l:Addr) (c:Nat) (out:Array Value) (ms:List Int),(∀b o,s.heap.get? b=some o->h'.get? b=some o)->s.heap.objs.size<=l->h'.get? l=some { cls:=.type "list",data:=.seq out c }->IntsAre out.toList ms->ms.Perm (es.toList.map vz)->ms.Pairwise (·<=·)->Q (.ref l) { s with heap:=h',drawn:=d,toks:=tk }):wpAny (model P w) A (call (.builtin "sorted") [.ref a]) Q E s:=by
  have hz:es.size<64:=xbb x.len h64;refine Calls.call_function_entry kind_sorted plain_sorted entry_sorted (args_sorted1 _) ?_;unfold Builtin.«sorted»;refine wpAny_bind (m:=checkCount "sorted" 1 1 _) (wpAny_pure ?_);refine wpAny_bind (jgL (A:=A.in1) hh x (by rw[sizeLine_eq];omega) fun h' d tk acc k zl pm=>?_);have la:acc.length<64:=by rw[pm.length_eq,xaa,Array.length_toList];exact hz
  refine wpAny_bind (wpAny_newList ?_);have gL:(h'.push (seqObj "list" acc.toArray 0)).get? h'.objs.size=some (seqObj "list" acc.toArray 0):=Heap.get?_push_size _ rfl;have hI:IntsAre acc (acc.map vi):=by
    have all:∀v∈acc,∃u,v=.int (vi v) u:=fun v hv=>by
      obtain⟨e,he,rfl⟩:=xax.mp (pm.mem_iff.mp hv);obtain⟨z,u,rfl⟩:=x.el e he;exact⟨u,rfl⟩
    clear pm la gL;induction acc with
    | nil=>exact .nil
    | cons v l ih =>
      obtain⟨u,hu⟩:=all v (.head _);rw[xay];have:=IntsAre.cons (vi v) u (ih fun x hx=>all x (.tail _ hx));rw[<- hu] at this;exact this
  have pz:(acc.map vi).Perm (es.toList.map vz):=by
    have:=pm.map vi;rw[xaO] at this;exact this
  refine wpAny_bind (wpAny_holding (wpAny_call_entry slot_list_sort ⟨_,gL,rfl⟩ entry_list_sort (list_sort_tree gL hI la fun out ms a1 a2 a3=>⟨_,rfl,?_⟩) (args_list_sort _)));obtain⟨c,gO⟩:=sortedHeap_at (out:=out) gL;refine wpAny_pure ⟨_,rfl,q _ d tk _ c out ms (fun b o e=>?_) ?_ gO a1 (a2.trans pz) a3⟩
  . have e':=k b o e
    have lb:=Heap.lt_size e';rw[sortedHeap_old (xan lb) (by rw[size_push'];exact xa4 lb)];exact Heap.get?_push_of_some _ e'
  . exact xa1 zl
def jov (w:World) (p:Addr) (ns:List Int):HO:=.ext fun h=>∃ep es t,SI (byT w) h p ns ep es t
def rSetJ (w:World):List V->Hp->VK->Prop:=fun xs H Q=>∃(p:Addr) (ns:List Int),xs=[.ref p]/\H p=some (.lst (ns.map V.int))/\ns.length<4000/\∀l,H l=none->Q (.ref l) (upd H l (jov w l ns))
def jo1 (w:World):List V->Hp->VK->Prop:=fun xs H Q=>∃(p:Addr) (ns:List Int),xs=[.ref p]/\H p=some (jov w p ns)/\ns.length<64/\∀(l:Addr) (ms:List Int),H l=none->ms.Pairwise (· < ·)->(∀k,k∈ms↔k∈ns)->Q (.ref l) (upd H l (.lst (ms.map V.int)))
end
section
variable {X:Cx}
theorem jjl (hc:X.calm=true):CallR X (.type "set") (rSetJ X.w):=by
 intro pins s σ H xs us Q I r h;obtain⟨p,ns,rfl,hp,n6,q⟩:=h;obtain⟨u,rfl,rx⟩:=jdK r;cases rx;obtain⟨its,n,rv,ho,hz⟩:=I.lst hp;have en:its.toArray.size=ns.length:=by rw[xai,<- rv.length,xaa]
 refine jlb (items:=its.toArray) (ns:=ns) (I.ok.hd hc) ⟨_,ho,rfl,n,rfl⟩ (jc1 rv) (by rw[en];unfold scanBound;omega) fun h' tk ep es t x k=>?_;refine⟨.ref s.heap.objs.size,_,I.laid (t':=tk) (o:=jov X.w s.heap.objs.size ns) (fun b u e=>k b u e) (xae _) ⟨⟨_,_,_,x⟩,⟨_,x.get⟩,fun h1 h2 ⟨a,b,c,y⟩ kp=>⟨a,b,c,y.keep kp⟩⟩,rfl,q _ (I.hok.fresh (xae _))⟩
theorem jeT {ms:List Int} (h:ms.Pairwise (·<=·)) (n:ms.Nodup):ms.Pairwise (· < ·):=by
 refine (List.pairwise_and_iff.mpr ⟨h,n⟩).imp fun ⟨a,b⟩=>?_;omega
theorem jin (hc:X.calm=true):CallR X (.builtin "sorted") (jo1 X.w):=by
 intro pins s σ H xs us Q I r h;obtain⟨p,ns,rfl,hp,n6,q⟩:=h;obtain⟨u,rfl,rx⟩:=jdK r;cases rx;obtain⟨⟨ep,es,t,x⟩,_⟩:=(show ObjOk X.prog X.w H s.heap p (jov X.w p ns) from I.hok p _ hp);refine jim (I.ok.hd hc) x n6 fun h' d tk l c out ms k zl gl a1 a2 a3=>?_;have hn:H l=none:=I.hok.fresh zl;have I2:Inv X pins σ H { s with drawn:=d }:=I.step (s:=s) (h':=s.heap) (H':=H) (g':=s.gens) (d':=d) (t':=s.toks) (ch:=[]) (fun _ z=>nomatch z) (fun _ _ _ _ _ e _=>e) (fun b o _ _ _ e _=>⟨o.slots,e⟩) (fun _ _ _ _ e=>e) (fun b o _ e=>⟨o,e⟩) (fun _ _ e=>e) (fun _ _ _ e=>e) (fun b ps e=>⟨#[],by rw[Array.append_empty];exact e⟩) (fun _ e=>e) I.hok I.bare;refine⟨.ref l,_,I2.laid (t':=tk) (o:=.lst (ms.map V.int)) (fun b u e=>k b u e) zl ⟨?_,out.toList,c,jig a1,gl⟩,rfl,q l ms hn (jeT a3 (a2.nodup_iff.mpr x.nd)) fun k=>?_⟩
 ·rw[xaa,a2.length_eq,xaa,Array.length_toList,sizeLine_eq];have:=x.len;omega
 ·rw[a2.mem_iff];exact x.mem k
end
end L2
set_option maxHeartbeats 2000000
namespace L2
open PySem PySem.Spec PyProof.Rows
end L2
set_option maxHeartbeats 2000000
namespace My
def G (d:Int) (ns:List Int):Int:=ns.foldl (fun d n=>((Int.gcd d n:Nat):Int)) d
abbrev gl (ns:List Int):Int:=G 0 ns
theorem jgg (d n:Int) (r:List Int):G d (n::r)=G (Int.gcd d n:Nat) r:=rfl
theorem jo2 (d:Int) (l:List Int) (n:Int):G d (l++[n])=(Int.gcd (G d l) n:Nat):=by
 unfold G;rw[xcC];rfl
theorem jhr:∀(ns:List Int) (d:Int),0<=d->0<=G d ns
 | [],_,h=>h
 | n::r,d,_=>by rw[jgg];exact jhr r _ (by omega)
theorem jbh (ns:List Int):0<=gl ns:=jhr ns 0 (by omega)
theorem jo3:∀(ns:List Int) (d:Int),G d ns ∣ d/\∀n∈ns,G d ns ∣ n
  | [],d=>⟨xct d,fun n h=>nomatch h⟩
  | m :: r, d => by
    obtain⟨h1,h2⟩:=jo3 r (Int.gcd d m:Nat);rw[jgg];refine⟨xbB h1 (xbz ..),fun n hn=>?_⟩;rcases xap.mp hn with rfl | hn
    . exact xbB h1 (xbv ..)
    . exact h2 n hn
variable {ns:List Int}
theorem jaT {n:Int} (h:n∈ns):gl ns ∣ n:=(jo3 ns 0).2 n h
theorem jo4:∀(ns:List Int) (d k:Int),k ∣ d->(∀n∈ns,k ∣ n)->k ∣ G d ns
  | [],_,_,h,_=>h
  | m :: r, d, k, h, hn => by
    rw[jgg];refine jo4 r _ k ?_ fun n h'=>hn n (xas _ h');have h2:=hn m xba;exact xbI h h2
theorem je2 {k:Int} (h:∀n∈ns,k ∣ n):k ∣ gl ns:=jo4 ns 0 k (Int.dvd_zero k) h
theorem jnj {k:Int} (h0:0<=k) (h:k ∣ 1):k=1:=by
 exact Int.eq_one_of_dvd_one h0 h
theorem jo5 (hg:gl ns≠0):gl (ns.map (· / gl ns))=1:=by
 have h0:=jbh ns;refine jnj (jbh _) ?_;have h1:∀n∈ns,gl (ns.map (· / gl ns))*gl ns ∣ n:=fun n hn=>by
  obtain⟨c,hc⟩:=jaT (ns:=ns.map (· / gl ns)) (xax.mpr ⟨n,hn,rfl⟩);refine⟨c,?_⟩;have e:n=n / gl ns*gl ns:=(xbe (jaT hn)).symm;rw[e,hc,xcD,xbf c,<- xcD]
 obtain⟨c,hc⟩:=je2 h1;refine⟨c,?_⟩;have h2:gl ns*1=gl ns*(gl (ns.map (· / gl ns))*c):=by
  rw[xbO,<- xcD,xbf (gl ns) (gl (ns.map (· / gl ns)))];exact hc
 exact Int.eq_of_mul_eq_mul_left hg h2
theorem jo6:∀ns:List Int,G 1 ns=1
  | []=>rfl
  | n :: r => by
    rw[jgg];have:Int.gcd 1 n=1:=by simp
    rw[this];exact jo6 r
theorem jli (d:Int) (a b:List Int):G d (a++b)=G (G d a) b:=by
 unfold G;exact xcC
variable {n k i f j:Nat}
theorem jeU (h:gl (ns.take i)=1):gl ns=1:=by
 have e:ns=ns.take i++ns.drop i:=(xaW i ns).symm;rw[e];show G 0 _=1;rw[jli];have h':G 0 (ns.take i)=1:=h;rw[h'];exact jo6 _
theorem jgh {n:Int} (h:ns[i]?=some n):gl (ns.take (i+1))=(Int.gcd (gl (ns.take i)) n:Nat):=by
 rw[xaZ,h];exact jo2 0 _ n
theorem jgM (ns:List Int):ns.map (· / 1)=ns:=by
 induction ns with
 | nil=>rfl
 | cons a r ih=>rw[xay,ih,Int.ediv_one]
theorem jlj (a b:Int) (ha:0<=a):Int.gcd b (a % b)=Int.gcd a b:=by
 have h1:(a % b).natAbs=a.natAbs % b.natAbs:=Int.natAbs_emod_of_nonneg ha b;rw[Int.gcd_eq_natAbs_gcd_natAbs,Int.gcd_eq_natAbs_gcd_natAbs,h1];rw[Nat.gcd_comm,Nat.gcd_comm a.natAbs,<- Nat.gcd_rec]
theorem jnk (a b:Int):Int.gcd (if a<0 then -a else a) (if b<0 then -b else b)=Int.gcd a b:=by
 split<;>split<;>simp [Int.gcd_neg,Int.neg_gcd]
theorem jio (a b:Int):Int.gcd (if b>a then b else a) (if b<a then b else a)=Int.gcd a b:=by
 split<;>split
 ·omega
 ·exact Int.gcd_comm b a
 ·rfl
 ·have:a=b:=by omega
  rw[this]
variable {a g c d x y A B:Int}
theorem parts {b:Int} (ha:a∈ns) (hb:b∈ns):(a / gl ns)*b=a*(b / gl ns):=by
 have e1:a=a / gl ns*gl ns:=(xbe (jaT ha)).symm;have e2:b=b / gl ns*gl ns:=(xbe (jaT hb)).symm
 conv=>lhs;rhs;rw[e2]
 conv=>rhs;lhs;rw[e1]
 rw[xcD,xbf (gl ns)]
theorem jd0 {n:Int} (h:n∈ns) (hn:n≠0):0<gl ns:=by
 have h0:=jbh ns;rcases Int.lt_or_eq_of_le h0 with h1 | h1
 ·exact h1
 ·obtain⟨c,hc⟩:=jaT h;rw[<- h1,xbg] at hc;exact absurd hc hn
end My
namespace My
variable {a g c d x y A B:Int}
theorem jeu {n:Int} (h:g ∣ n) (hn:n≠0):n / g≠0:=fun z=>by
 have e:=xbe h;rw[z,xbg] at e;exact hn e.symm
end My
local macro_rules | `(tactic| walk_at "rjs") => `(tactic| simp only [L2.jdv, L2.joq, L2.jiF, L2.jkO, L2.jbA, L2.jl0, L2.tC, L2.tOp, L2.tUn, L2.jiN, L2.tB, L2.joH, L2.joG, L2.jkM, L2.jiG, L2.jg1, L2.jkL, L2.joD, L2.tOr, L2.joE, L2.jiD, L2.tOrV, L2.jiE, L2.jh3, L2.tCB, L2.jeQ, L2.jkQ, L2.jm4, L2.jl3, L2.joJ, L2.joP, L2.tBM, L2.tyV, L2.jot, L2.gk, and_self, L2.tSl, L2.jen, L2.jiU, L2.jkI, L2.jdJ, L2.jkN, L2.jix, and_assoc, L2.rI, L2.rI0, L2.rU, L2.rEq, L2.rNe, L2.jor, List.map_cons, List.map_nil, List.length_cons, List.length_nil, List.replicate_succ, List.replicate_zero, List.cons_append, List.nil_append, List.append_nil, Nat.reduceSub, Nat.reduceAdd, Nat.sub_self, List.set_cons_zero, List.set_cons_succ, List.getElem?_cons_zero, List.getElem?_cons_succ, Option.some.injEq, exists_eq_left', exists_eq_left, L2.V.int.injEq, L2.V.bl.injEq, L2.V.ref.injEq, L2.V.ty.injEq, List.cons.injEq, exists_and_left, and_true, true_and, reduceCtorEq, false_and, and_false, exists_false, or_false, false_or, L2.jaD, Option.getD_some, Bool.true_eq_false, decide_eq_true_eq, Bool.not_eq_true', decide_eq_false_iff_not, decide_not, Bool.false_eq_true, if_true, if_false, ite_not])
local macro_rules | `(tactic| walk_at "rj") => `(tactic| first | ((dsimp only [L2.jdv, L2.joq, L2.jiF, L2.jkO, L2.jbA, L2.jl0, L2.tC, L2.tOp, L2.tUn, L2.jiN, L2.tB, L2.joH, L2.joG, L2.jkM, L2.jiG, L2.jg1, L2.jkL, L2.joD, L2.tOr, L2.joE, L2.jiD, L2.tOrV, L2.jiE, L2.jh3, L2.tCB, L2.jeQ, L2.jkQ, L2.jm4, L2.jl3, L2.joJ, L2.joP, L2.tBM, L2.tyV, L2.jot, L2.gk, L2.tSl, L2.jen, L2.jiU, L2.jkI, L2.jdJ, L2.jkN, L2.jix, L2.rI, L2.rI0, L2.rU, L2.rEq, L2.rNe, L2.jor, L2.jaD, List.map_cons, List.map_nil, List.length_cons, List.length_nil, List.replicate_succ, List.replicate_zero, List.cons_append, List.nil_append, List.set_cons_zero, List.set_cons_succ, List.getElem?_cons_zero, List.getElem?_cons_succ, Option.getD_some, Nat.reduceSub, Nat.reduceAdd]); (try walk_at "rjs")) | walk_at "rjs")
local macro_rules | `(tactic| walk_at "go") => `(tactic| repeat (first | refine L2.ixT (by assumption) rfl ?_ | refine L2.ixL (by assumption) rfl ?_ | refine And.intro (by assumption) ?_ | walk_at "rj"))
local macro_rules | `(tactic| walk_at "ris") => `(tactic| simp only [L2.jdv, L2.joq, L2.jiF, L2.jkO, L2.jbA, L2.jl0, L2.tC, L2.tOp, L2.tUn, L2.jiN, L2.tB, L2.joH, L2.joG, L2.jkM, L2.jiG, L2.jg1, L2.jkL, L2.joD, L2.tOr, L2.joE, L2.jiD, L2.tOrV, L2.jiE, L2.jh3, L2.tCB, L2.jeQ, L2.jkQ, L2.jm4, L2.jl3, L2.joJ, L2.joP, L2.tBM, L2.tyV, L2.jot, L2.gk, and_self, L2.tSl, L2.jen, L2.jiU, L2.jkI, L2.jdJ, L2.jkN, L2.jix, and_assoc, L2.rI, L2.rI0, L2.rU, L2.rEq, L2.rNe, L2.jor, List.map_cons, List.map_nil, List.length_cons, List.length_nil, List.replicate_succ, List.replicate_zero, List.cons_append, List.nil_append, List.append_nil, Nat.reduceSub, Nat.reduceAdd, Nat.sub_self, List.set_cons_zero, List.set_cons_succ, List.getElem?_cons_zero, List.getElem?_cons_succ, Option.some.injEq, exists_eq_left', exists_eq_left, L2.V.int.injEq, L2.V.bl.injEq, L2.V.ref.injEq, L2.V.ty.injEq, List.cons.injEq, exists_and_left, and_true, true_and, reduceCtorEq, false_and, and_false, exists_false, or_false, false_or, L2.jaD, Option.getD_some, Bool.true_eq_false, decide_eq_true_eq, Bool.not_eq_true', decide_eq_false_iff_not, decide_not, Bool.false_eq_true, if_true, if_false, ite_not, L2.ji6, L2.ji7, L2.jl8, L2.jl9, L2.jg9, L2.jha, L2.ji8, L2.ji9, L2.jmb, L2.jjb, L2.jl2, L2.V.str.injEq, L2.jhe, L2.jft, L2.jhf, L2.jmc])
local macro_rules | `(tactic| walk_at "ri") => `(tactic| first | ((dsimp only [L2.jdv, L2.joq, L2.jiF, L2.jkO, L2.jbA, L2.jl0, L2.tC, L2.tOp, L2.tUn, L2.jiN, L2.tB, L2.joH, L2.joG, L2.jkM, L2.jiG, L2.jg1, L2.jkL, L2.joD, L2.tOr, L2.joE, L2.jiD, L2.tOrV, L2.jiE, L2.jh3, L2.tCB, L2.jeQ, L2.jkQ, L2.jm4, L2.jl3, L2.joJ, L2.joP, L2.tBM, L2.tyV, L2.jot, L2.gk, L2.tSl, L2.jen, L2.jiU, L2.jkI, L2.jdJ, L2.jkN, L2.jix, L2.rI, L2.rI0, L2.rU, L2.rEq, L2.rNe, L2.jor, L2.jaD, L2.ji6, L2.ji7, L2.jl8, L2.jl9, L2.jg9, L2.jha, L2.ji8, L2.ji9, L2.jmb, L2.jjb, L2.jl2, L2.jhe, L2.jft, L2.jhf, L2.jmc, List.map_cons, List.map_nil, List.length_cons, List.length_nil, List.replicate_succ, List.replicate_zero, List.cons_append, List.nil_append, List.set_cons_zero, List.set_cons_succ, List.getElem?_cons_zero, List.getElem?_cons_succ, Option.getD_some, Nat.reduceSub, Nat.reduceAdd]); (try walk_at "ris")) | walk_at "ris")
local macro_rules | `(tactic| walk_at "sd") => `(tactic| first | assumption | exact L2.Fit.o (by omega) (by omega) | (show L2.CPow _ _; exact ⟨by decide, by decide, by decide⟩) | decide)
local macro_rules | `(tactic| walk_at "gf") => `(tactic| repeat (first | ((with_reducible apply L2.ixT); assumption; rfl) | ((with_reducible apply L2.ixL); assumption; rfl) | ((with_reducible apply L2.FoR.lst); assumption) | ((with_reducible apply L2.FoR.tup); assumption) | ((with_reducible apply L2.FoR.len); assumption) | ((with_reducible apply L2.FoR.lenT); assumption) | ((with_reducible apply And.intro); (walk_at "sd")) | walk_at "ri"))
local macro_rules | `(tactic| walk_at "sc") => `(tactic| exact ⟨rfl, rfl, rfl, by decide +kernel, rfl, by decide +kernel, by decide +kernel⟩)
local macro_rules | `(tactic| walk_at "rd") => `(tactic| try walk_at "rj")
local macro_rules | `(tactic| walk_at "rf") => `(tactic| try walk_at "ri")
namespace My
open PySem L2 PyProof.Rows
def top (i:Nat):Stmt:=PySem.Challenge.pw_boardsight_k41_grown_one_by_one.main.body.getD i (.Pass ⟨0,0,0,0⟩)
abbrev jev:Stmt:=top 8
abbrev jbw:Stmt:=top 10
abbrev jaZ:Stmt:=top 11
abbrev jew:Stmt:=top 12
abbrev jcn:Stmt:=top 13
abbrev jbp:Stmt:=top 15
abbrev jb8:Stmt:=top 16
abbrev jcG:Stmt:=top 17
abbrev jdO:Stmt:=top 18
abbrev jex:Stmt:=top 19
abbrev jcH:Stmt:=top 21
abbrev jbi:Stmt:=top 22
abbrev jdP:Stmt:=top 23
abbrev jco:Stmt:=top 24
abbrev jbT:Stmt:=top 25
abbrev jcp:Stmt:=top 26
abbrev jey:Stmt:=top 27
abbrev jfy:Stmt:=top 28
abbrev jfz:Stmt:=top 31
abbrev jch:Stmt:=top 32
abbrev jdo:Stmt:=top 33
abbrev jb9:Stmt:=top 34
abbrev jdp:Stmt:=top 35
abbrev jcI:Stmt:=top 36
abbrev jdQ:Stmt:=top 37
abbrev jcq:Stmt:=top 39
abbrev jbN:Stmt:=top 40
abbrev jbF:Stmt:=top 42
abbrev jdR:Stmt:=top 43
abbrev jbx:Stmt:=top 44
abbrev jbU:Stmt:=top 45
abbrev jca:Stmt:=top 47
abbrev jby:Stmt:=top 48
abbrev jcJ:Stmt:=top 49
abbrev jdq:Stmt:=top 50
abbrev jcb:Stmt:=top 51
abbrev jbG:Stmt:=top 52
abbrev jci:Stmt:=top 53
abbrev jaW:Stmt:=top 54
abbrev jdr:Stmt:=top 55
abbrev jcr:Stmt:=top 56
abbrev jcs:Stmt:=top 57
abbrev jcc:Stmt:=top 58
abbrev jaH:Stmt:=top 59
abbrev jbz:Stmt:=top 60
abbrev jcK:Stmt:=top 61
abbrev jbj:Stmt:=top 62
abbrev ja8:Stmt:=top 63
abbrev jaX:Stmt:=top 64
abbrev jcL:Stmt:=top 65
abbrev jbH:Stmt:=top 66
abbrev jbV:Stmt:=top 67
abbrev jaE:Stmt:=top 68
abbrev jdS:Stmt:=top 69
def Small (i:Int):Prop:=i.natAbs<2^1990
theorem Small.neg {i:Int} (h:Small i):Small (-i):=by unfold Small at *;rw[xcz];exact h
theorem Small.ite {c:Prop} [Decidable c] {i j:Int} (h:Small i) (h':Small j):Small (if c then i else j):=by split<;>assumption
theorem Small.bd {i:Int} (h:Small i):Bd 1990 i:=h
theorem Small.of {i:Int} (h1:-1606938044258990275541962092341162602522202993782792835301376<i) (h2:i<1606938044258990275541962092341162602522202993782792835301376):Small i:=(Bd.of h1 h2).mono
variable {a g c d x y A B:Int}
theorem Small.div {i:Int} (h:Small i):Small (i / g):=xbb (xbV i g) h
variable {ns:List Int}
theorem jhs (h:∀n∈ns,Small n):Small (gl ns):=by
 by_cases c:∃n∈ns,n≠0
 ·obtain⟨n,hn,h0⟩:=c;have z:=xcf.mpr (jaT hn);exact xbb (Nat.le_of_dvd (by omega) z) (h n hn)
 ·have z:(0:Int) ∣ gl ns:=je2 fun n hn=>by
   have:n=0:=xal fun q=>c ⟨n,hn,q⟩;rw[this];exact xct 0
  rw[Int.zero_dvd.mp z];exact Nat.two_pow_pos _
variable {H H' J H1:Hp}
theorem Same.keep {p:Addr} {o:HO} (h:Same H H') (n:H p=none):Same H (upd H' p o):=fun b u q=>by rw[jaC (jax q n)];exact h b u q
variable {n k i f j:Nat}
theorem jjm {v:V} (h:(ns.map V.int)[i]?=some v):∃z,v=V.int z/\ns[i]?=some z:=by
 rw[xaf] at h;cases e:ns[i]? with
 | none=>rw[e] at h;cases h
 | some z=>rw[e] at h;exact⟨z,(Option.some.inj h).symm,rfl⟩
def spGd:Sp:=fun vs H Q _=>∃a b:Int,vs=[.int a,.int b]/\Small a/\Small b/\Q (.int (Int.gcd a b:Nat)) H
def jlk:Sp:=fun vs H Q _=>∃(a:Addr) (ns:List Int),vs=[.ref a]/\H a=some (.tup (ns.map V.int))/\ns.length<=10/\(∀n∈ns,Small n)/\gl ns≠0 /\
 ∀(r:Addr) (H':Hp),Same H H'->H' r=some (.tup ((ns.map (· / gl ns)).map V.int))->Q (.ref r) H'
def jll (K:PySem.W.Frag):Sp:=fun vs H Q _=>∃(a:Addr) (ns:List Int),vs=[.ref a]/\SqL K H a (ns.map V.int)/\ns.length<=63/\∀H',Q (.bl true) H'
structure Tx (K:PySem.W.Frag) (mg:Str->Option Value) (t1 t2:Tok):Prop where
 m_sum:mg "sum"=none
 m_dict:mg "dict"=none
 m_set:mg "set"=none
 m_sorted:mg "sorted"=none
 m_all:mg "all"=none
 m_isinstance:mg "isinstance"=none
 m_bool:mg "bool"=none
 m_int:mg "int"=none
 m_abs:mg "abs"=none
 m_max:mg "max"=none
 m_min:mg "min"=none
 m_len:mg "len"=none
 m_range:mg "range"=none
 m_tuple:mg "tuple"=none
 m_list:mg "list"=none
 m_reversed:mg "reversed"=none
 m_SHORT_BITS:mg "SHORT_BITS"=some (.int 2000 t1)
 m_MOST_CORNERS:mg "MOST_CORNERS"=some (.int 8 t2)
theorem Tx.r_SHORT_BITS {K:PySem.W.Frag} {mg:Str->Option Value} {t1 t2:Tok} (_:Tx K mg t1 t2):RelV (.int 2000) (.int 2000 t1):=⟨_,rfl⟩
theorem Tx.r_MOST_CORNERS {K:PySem.W.Frag} {mg:Str->Option Value} {t1 t2:Tok} (_:Tx K mg t1 t2):RelV (.int 8) (.int 8 t2):=⟨_,rfl⟩
def low (ns:List Int):List Int:=ns.map (· / gl ns)
def Sm2 (i:Int):Prop:=i.natAbs<2^650
theorem Sm2.bd {i:Int} (h:Sm2 i):Bd 1990 i:=Bd.mono (n:=650) h
theorem Sm2.of {i:Int} (h1:-1606938044258990275541962092341162602522202993782792835301376<i) (h2:i<1606938044258990275541962092341162602522202993782792835301376):Sm2 i:=(Bd.of h1 h2).mono
theorem Sm2.div {i:Int} (h:Sm2 i):Sm2 (i / g):=xbb (xbV i g) h
structure Pt where
 x:Int
 y:Int
 z:Int
 w:Int
def Pt.sm (p:Pt):Prop:=Sm2 p.x/\Sm2 p.y/\Sm2 p.z/\Sm2 p.w
def Is4 (H:Hp) (r:Addr) (p:Pt):Prop:=H r=some (.tup [.int p.x,.int p.y,.int p.z,.int p.w])/\p.sm
variable {r L sd S M W D:Addr}
variable {p q:Pt}
theorem Is4.keep (h:Is4 H r p) (s:Same H H'):Is4 H' r p:=⟨s _ _ h.1,h.2⟩
theorem Is4.sq {K:PySem.W.Frag} (h:Is4 H r p):SqT K H r [.int p.x,.int p.y,.int p.z,.int p.w]:=SqT.of h.1
theorem Pt.sm.fx (h:p.sm):Fit p.x:=h.1.bd.fit
theorem Pt.sm.fy (h:p.sm):Fit p.y:=h.2.1.bd.fit
theorem Pt.sm.fz (h:p.sm):Fit p.z:=h.2.2.1.bd.fit
theorem Pt.sm.fw (h:p.sm):Fit p.w:=h.2.2.2.bd.fit
def wo (k:Int) (p:Pt):List Int:=if k=0 then [p.y,p.z,p.w] else if k=1 then [p.x,p.z,p.w] else if k=2 then [p.x,p.y,p.w] else [p.x,p.y,p.z]
def jbK (a b c x y z u v w:Int):Int:=(b*z-c*y)*u+(c*x-a*z)*v+(a*y-b*x)*w
def detL:List Int->List Int->List Int->Int
 | [a,b,c],[x,y,z],[u,v,w]=>jbK a b c x y z u v w
 | _,_,_=>0
def jaB (k:Int) (p q r:Pt):Int:=detL (wo k p) (wo k q) (wo k r)
def inl (p q r:Pt):Bool:=decide (jaB 0 p q r=0/\jaB 1 p q r=0/\jaB 2 p q r=0)
def Tup3 (H:Hp) (r:Addr) (a b c:Int):Prop:=H r=some (.tup [.int a,.int b,.int c])/\Sm2 a/\Sm2 b/\Sm2 c
def jjn:Sp:=fun vs H Q _=>∃(r p:Addr) (a b c x y z:Int),vs=[.ref r,.ref p]/\Tup3 H r a b c/\Tup3 H p x y z /\
 ∀(t:Addr) (H':Hp),Same H H'->H' t=some (.tup [.int (b*z-c*y),.int (c*x-a*z),.int (a*y-b*x)])->Q (.ref t) H'
def jo7:Sp:=fun vs H Q _=>∃(r p s:Addr) (a b c x y z u v w:Int),vs=[.ref r,.ref p,.ref s]/\Tup3 H r a b c/\Tup3 H p x y z/\Tup3 H s u v w/\∀H':Hp,Same H H'->Q (.int (jbK a b c x y z u v w)) H'
def jgi:Sp:=fun vs H Q _=>∃(r:Addr) (k:Int) (p:Pt),vs=[.ref r,.int k]/\Is4 H r p/\0<=k/\k<=3/\∀(t:Addr) (H':Hp),Same H H'->H' t=some (.tup ((wo k p).map V.int))->Q (.ref t) H'
def jfA:Sp:=fun vs H Q _=>∃(r s t:Addr) (k:Int) (p q o:Pt),vs=[.ref r,.ref s,.ref t,.int k]/\Is4 H r p/\Is4 H s q/\Is4 H t o/\0<=k/\k<=3/\∀H':Hp,Same H H'->Q (.int (jaB k p q o)) H'
def jmf:Sp:=fun vs H Q _=>∃(r s t:Addr) (p q o:Pt),vs=[.ref r,.ref s,.ref t]/\Is4 H r p/\Is4 H s q/\Is4 H t o/\∀H':Hp,Same H H'->Q (.bl (inl p q o)) H'
def jht:Sp:=fun vs H Q _=>∃(r:Addr) (ns:List Int),vs=[.ref r]/\H r=some (.tup (ns.map V.int))/\ns.length<=10/\∀(t:Addr) (H':Hp),Same H H'->H' t=some (.tup ((ns.map fun n=>-n).map V.int))->Q (.ref t) H'
def plb (a b c:Int):Bool:=if a≠0 then decide (0<a) else if b≠0 then decide (0<b) else if c≠0 then decide (0<c) else false
def jjo:Sp:=fun vs H Q _=>∃(r:Addr) (a b c d:Int),vs=[.ref r]/\H r=some (.tup [.int a,.int b,.int c,.int d])/\∀H':Hp,Same H H'->Q (.bl (plb a b c)) H'
def rgh (p o u:Pt):List Int:=[jaB 0 p o u,-jaB 1 p o u,jaB 2 p o u,jaB 3 p o u]
def jjp:Sp:=fun vs H Q _=>∃(r e t:Addr) (p o u:Pt),vs=[.ref r,.ref e,.ref t]/\Is4 H r p/\Is4 H e o/\Is4 H t u/\∀(g:Addr) (H':Hp),Same H H'->H' g=some (.tup ((rgh p o u).map V.int))->Q (.ref g) H'
def pln (ns:List Int):List Int:=match low ns with
 | [a,b,c,d]=>if plb a b c=true then [a,b,c,d] else [-a,-b,-c,-d]
 | l=>l
def jbW (p o u:Pt):Prop:=jaB 0 p o u=0/\jaB 1 p o u=0/\jaB 2 p o u=0
def hgt (a b c d:Int) (p:Pt):Int:=a*p.x+b*p.y+c*p.z-d*p.w
def sgn (n:Int):Int:=if n>0 then 1 else if n<0 then -1 else 0
def jjq:Sp:=fun vs H Q _=>∃n:Int,vs=[.int n]/\Q (.int (sgn n)) H
def sf (x y z w x' y' z' w':Int):Bool:=if x*w'≠x'*w then decide (x*w'<x'*w) else if y*w'≠y'*w then decide (y*w'<y'*w) else if z*w'≠z'*w then decide (z*w'<z'*w) else false
def sfp (p o:Pt):Bool:=sf p.x p.y p.z p.w o.x o.y o.z o.w
def jjr:Sp:=fun vs H Q _=>∃(r e:Addr) (p o:Pt),vs=[.ref r,.ref e]/\Is4 H r p/\Is4 H e o/\Q (.bl (sfp p o)) H
def jjs:Sp:=fun vs H Q _=>∃a b c d:Int,vs=[.int a,.int b,.int c,.int d]/\Small a/\Small b/\Small c/\Small d/\¬(a=0/\b=0/\c=0)/\∀(r:Addr) (H':Hp),Same H H'->H' r=some (.tup ((low [a,b,c,d]).map V.int))->Q (.ref r) H'
def jez:Sp:=fun vs H Q _=>∃(r e t:Addr) (p o u:Pt),vs=[.ref r,.ref e,.ref t]/\Is4 H r p/\Is4 H e o/\Is4 H t u/\¬jbW p o u/\∀(g:Addr) (H':Hp),Same H H'->H' g=some (.tup ((pln (rgh p o u)).map V.int))->Q (.ref g) H'
def spHt:Sp:=fun vs H Q _=>∃(r e:Addr) (a b c d:Int) (p:Pt),vs=[.ref r,.ref e]/\H r=some (.tup [.int a,.int b,.int c,.int d])/\Small a/\Small b/\Small c/\Small d/\Is4 H e p/\Q (.int (hgt a b c d p)) H
def jhu:Sp:=fun vs H Q _=>∃(r e:Addr) (a b c d:Int) (p:Pt),vs=[.ref r,.ref e]/\H r=some (.tup [.int a,.int b,.int c,.int d])/\Small a/\Small b/\Small c/\Small d/\Is4 H e p/\Q (.int (sgn (hgt a b c d p))) H
inductive Sps (H:Hp):List Addr->List Pt->Prop
 | nil:Sps H [] []
 | cons {r:Addr} {p:Pt} {rs:List Addr} {ps:List Pt} (h:Is4 H r p) (t:Sps H rs ps):Sps H (r::rs) (p::ps)
variable {ps qs l:List Pt}
theorem Sps.keep {rs:List Addr} (h:Sps H rs ps) (s:SameT H H'):Sps H' rs ps:=by
 induction h with
 | nil=>exact .nil
 | cons h _ ih=>exact .cons ⟨s _ _ h.1,h.2⟩ ih
theorem Sps.len {rs:List Addr} (h:Sps H rs ps):rs.length=ps.length:=by
 induction h with
 | nil=>rfl
 | cons h _ ih=>rw[xaw,xaw,ih]
theorem Sps.app {rs rs':List Addr} {ps':List Pt} (h:Sps H rs ps) (k:Sps H rs' ps'):Sps H (rs++rs') (ps++ps'):=by
 induction h with
 | nil=>exact k
 | cons h _ ih=>exact .cons h ih
theorem Sps.rev {rs:List Addr} (h:Sps H rs ps):Sps H rs.reverse ps.reverse:=by
  induction h with
  | nil=>exact .nil
  | cons h _ ih =>
    rw[xaP,xaP];exact ih.app (.cons h .nil)
theorem Sps.drop {rs:List Addr} (h:Sps H rs ps):∀n,Sps H (rs.drop n) (ps.drop n):=by
  induction h with
  | nil=>intro n;rw[List.drop_nil,List.drop_nil];exact .nil
  | cons h k ih =>
    intro n;cases n with
    | zero=>exact .cons h k
    | succ n=>exact ih n
theorem Sps.take {rs:List Addr} (h:Sps H rs ps):∀n,Sps H (rs.take n) (ps.take n):=by
  induction h with
  | nil=>intro n;rw[List.take_nil,List.take_nil];exact .nil
  | cons h k ih =>
    intro n;cases n with
    | zero=>exact .nil
    | succ n=>exact .cons h (ih n)
def p0:Pt:=⟨0,0,0,0⟩
def pt (ps:List Pt) (i:Nat):Pt:=ps.getD i p0
def ad (rs:List Addr) (i:Nat):Addr:=rs.getD i 0
theorem Sps.get {rs:List Addr} (h:Sps H rs ps):∀{i:Nat},i<ps.length->(rs.map V.ref)[i]?=some (.ref (ad rs i))/\Is4 H (ad rs i) (pt ps i):=by
  induction h with
  | nil=>intro i hi;exact absurd hi (by simp)
  | cons h k ih =>
    intro i hi;cases i with
    | zero=>exact⟨rfl,h⟩
    | succ i=>exact ih (by simpa using hi)
theorem jc4 {α:Type} {xs:List α} {v:α} (hn:xs.length=n+1) (h:xs[n]?=some v):atI xs (-1)=some v:=by
 have e:xs=xs.take n++[v]:=by
  have z:=xaZ (l:=xs) (i:=n);rw[h,<- hn,xa3] at z;exact z
 rw[e];exact jkS _ _
variable {xs ys zs:List V}
theorem jhv :jeO xs (some (f:Int)) none=xs.drop f:=by
 unfold jeO;rw[HT.sIx_nat,HT.sIx_none];by_cases h:f<=xs.length
 ·rw[xb4 h,xbd (by rw[xaC];exact xae _)]
 ·rw[Nat.min_eq_right (by omega),xca (xae _),xca (by omega),List.take_nil]
theorem jef :jeO xs none (some (f:Int))=xs.take f:=by
 unfold jeO;rw[HT.sIx_nat,HT.sIx_none];by_cases h:f<=xs.length
 ·rw[xb4 h];rfl
 ·rw[Nat.min_eq_right (by omega)];show xs.take (xs.length-0)=_;rw[Nat.sub_zero,xa3,xbd (by omega)]
def jhw (ps:List Pt):Nat->Nat
 | 0=>0
 | i+1=>if sfp (pt ps (i+1)) (pt ps (jhw ps i))=true then i+1 else jhw ps i
theorem jeA (ps:List Pt):∀i,jhw ps i<=i
  | 0=>xae _
  | i + 1 => by
    have:=jeA ps i;unfold jhw;split<;>omega
def rot {α:Type} (f:Nat) (l:List α):List α:=l.drop f++l.take f
def turn {α:Type} (b:Bool) (l:List α):List α:=if b=true then l.take 1++(l.drop 1).reverse else l
def fF (ps:List Pt):Nat:=jhw ps (ps.length-1)
def fB (ps:List Pt):Bool:=sfp (pt (rot (fF ps) ps) (ps.length-1)) (pt (rot (fF ps) ps) 1)
def frm {α:Type} (ps:List Pt) (l:List α):List α:=turn (fB ps) (rot (fF ps) l)
theorem Sps.rot {rs:List Addr} (h:Sps H rs ps) (f:Nat):Sps H (rot f rs) (rot f ps):=(h.drop f).app (h.take f)
theorem Sps.turn {rs:List Addr} (h:Sps H rs ps) (b:Bool):Sps H (turn b rs) (turn b ps):=by
 unfold My.turn;cases b
 ·exact h
 ·exact (h.take 1).app (h.drop 1).rev
theorem Sps.frm {rs:List Addr} (h:Sps H rs qs):Sps H (frm ps rs) (frm ps qs):=(h.rot _).turn _
def Cor (H:Hp) (l:Addr) (rs:List Addr) (ps:List Pt):Prop:=H l=some (.lst (rs.map V.ref))/\Sps H rs ps
theorem Cor.keep {l:Addr} {rs:List Addr} (h:Cor H l rs ps) (s:Same H H'):Cor H' l rs ps:=⟨s _ _ h.1,h.2.keep s.t⟩
def jfB:Sp:=fun vs H Q _=>∃(l:Addr) (rs:List Addr) (ps:List Pt),vs=[.ref l]/\Cor H l rs ps/\3<=ps.length/\ps.length<=17 /\
 ∀(t:Addr) (H':Hp),Same H H'->H' t=some (.tup ((frm ps rs).map V.ref))->Q (.ref t) H'
def jmg:Sp:=fun vs H Q _=>∃(r:Addr) (a b c d:Int),vs=[.ref r]/\H r=some (.tup [.int a,.int b,.int c,.int d])/\¬(a=0/\b=0/\c=0)/\∀k:Int,(k=0/\a≠0)\/(k=1/\a=0/\b≠0)\/(k=2/\a=0/\b=0/\c≠0)->Q (.int k) H
def jmh:Sp:=fun vs H Q _=>∃(g r e t:Addr) (k:Int) (p o u:Pt),vs=[.ref g,.ref t,.int k]/\H g=some (.tup [.ref r,.ref e])/\Is4 H r p/\Is4 H e o/\Is4 H t u/\0<=k/\k<=3/\∀H':Hp,Same H H'->Q (.int (sgn (jaB k p o u))) H'
def Rnd (k:Int) (ps:List Pt):Prop:=∀i j,i<ps.length->1<=j->j<ps.length-1->sgn (jaB k (pt ps ((i+(ps.length-1)) % ps.length)) (pt ps i) (pt ps ((i+j) % ps.length)))=sgn (jaB k (pt ps 0) (pt ps 1) (pt ps 2))
def jo8:Sp:=fun vs H Q _=>∃(l:Addr) (k:Int) (rs:List Addr) (ps:List Pt),vs=[.ref l,.int k]/\Cor H l rs ps/\3<=ps.length/\ps.length<=8/\0<=k/\k<=2/\Rnd k ps/\∀H':Hp,Same H H'->Q (.bl true) H'
structure Brd (ps:List Pt):Prop where
 n3:3<=ps.length
 n8:ps.length<=8
 na:¬jbW (pt ps 0) (pt ps 1) (pt ps 2)
 flat:∀i,i<ps.length->hgt (jaB 0 (pt ps 0) (pt ps 1) (pt ps 2)) (-jaB 1 (pt ps 0) (pt ps 1) (pt ps 2)) (jaB 2 (pt ps 0) (pt ps 1) (pt ps 2)) (jaB 3 (pt ps 0) (pt ps 1) (pt ps 2)) (pt ps i)=0
 rnd:∀k:Int,0<=k->k<=2->jaB k (pt ps 0) (pt ps 1) (pt ps 2)≠0->Rnd k ps
def jjt:Sp:=fun vs H Q _=>∃(l:Addr) (rs:List Addr) (ps:List Pt),vs=[.ref l]/\Cor H l rs ps/\Brd ps/\∀(t:Addr) (H':Hp),Same H H'->H' t=some (.tup ((frm ps rs).map V.ref))->Q (.ref t) H'
section
variable {P:Program} {w:World} {K:PySem.W.Frag} {mg:Str->Option Value} {base:Heap} {t1 t2:Tok}
theorem je3:FnScope ["number"] ["number"] (jad jev):=by walk_at "sc"
theorem jbX:FnScope ["one","other","great","small","steps","rest"] ["one","other"] (jad jbw):=by walk_at "sc"
theorem jb5:FnScope ["numbers","divisor","number"] ["numbers"] (jad jaZ):=by walk_at "sc"
theorem je4:FnScope ["one","other"] ["one","other"] (jad jew):=by walk_at "sc"
theorem jc9:FnScope ["one","other","third","arrow"] ["one","other","third"] (jad jcn):=by walk_at "sc"
theorem jd1:FnScope ["x","y","z","w"] ["x","y","z","w"] (jad jbp):=by walk_at "sc"
theorem jcM:FnScope ["one","other","k","mine","yours"] ["one","other"] (jad jb8):=by walk_at "sc"
theorem je5:FnScope ["spot","place"] ["spot","place"] (jad jcG):=by walk_at "sc"
theorem jeB:FnScope ["one","other","third","place"] ["one","other","third","place"] (jad jdO):=by walk_at "sc"
theorem je6:FnScope ["one","other","third","place"] ["one","other","third"] (jad jex):=by walk_at "sc"
theorem jdx:FnScope ["a","b","c","d"] ["a","b","c","d"] (jad jcH):=by walk_at "sc"
theorem jcN:FnScope ["plane"] ["plane"] (jad jbi):=by walk_at "sc"
theorem jeC:FnScope ["plane","number"] ["plane"] (jad jdP):=by walk_at "sc"
theorem jda:FnScope ["one","other","third"] ["one","other","third"] (jad jco):=by walk_at "sc"
theorem jcx:FnScope ["one","other","third","rough","plane"] ["one","other","third"] (jad jbT):=by walk_at "sc"
theorem jdb:FnScope ["plane","spot"] ["plane","spot"] (jad jcp):=by walk_at "sc"
theorem je7:FnScope ["plane","spot"] ["plane","spot"] (jad jey):=by walk_at "sc"
theorem jgj:FnScope ["plane","one","other","mine","yours"] ["plane","one","other"] (jad jfy):=by walk_at "sc"
theorem jgk:FnScope ["corners","first","k","ring"] ["corners"] (jad jfz):=by walk_at "sc"
theorem jeD:FnScope ["board"] ["board"] (jad jch):=by walk_at "sc"
theorem jd2:FnScope ["plane","axis"] ["plane"] (jad jdo):=by walk_at "sc"
theorem jcO:FnScope ["edge","spot","axis"] ["edge","spot","axis"] (jad jb9):=by walk_at "sc"
theorem jd3:FnScope ["corners","axis","turn","many","k","edge","ahead"] ["corners","axis"] (jad jdp):=by walk_at "sc"
theorem jdy:FnScope ["corners","plane","corner"] ["corners"] (jad jcI):=by walk_at "sc"
theorem jeE:FnScope ["board"] ["board"] (jad jdQ):=by walk_at "sc"
theorem jdc:FnScope ["board","plane","sided","edge","before","side"] ["board","plane"] (jad jcq):=by walk_at "sc"
theorem jgl:FnScope ["board","plane","sides","sided","below","above"] ["board","plane"] (jad jbN):=by walk_at "sc"
theorem jct:FnScope ["tree","number","board","own","parts","below","above"] ["tree","number","board","own"] (jad jbF):=by walk_at "sc"
theorem jeF:FnScope ["tree","piece"] ["tree","piece"] (jad jdR):=by walk_at "sc"
theorem je8:FnScope ["some","row","boards","numbers","tree","number"] ["some","row"] (jad jbx):=by walk_at "sc"
theorem jcP:FnScope ["tree"] ["tree"] (jad jbU):=by walk_at "sc"
theorem jcQ:FnScope ["script","k","cell"] ["script","k"] (jad jca):=by walk_at "sc"
theorem jdd:FnScope ["script","many","cells","k","at"] ["script","many"] (jad jby):=by walk_at "sc"
theorem jdz:FnScope ["cell","left"] ["cell"] (jad jcJ):=by walk_at "sc"
theorem jd4:FnScope ["state","many","found"] ["state","many"] (jad jdq):=by walk_at "sc"
theorem jcR:FnScope ["one","other"] ["one","other"] (jad jcb):=by walk_at "sc"
theorem jdA:FnScope ["state","span"] ["state","span"] (jad jbG):=by walk_at "sc"
theorem jeG:FnScope ["state","made","way","span","base","one","other","shape","across","place"] ["state","made"] (jad jci):=by walk_at "sc"
theorem jcS:FnScope ["raw","base","one","other","shape","rows","found","i","j","place"] ["raw"] (jad jaW):=by walk_at "sc"
theorem jd5:FnScope ["cells","raws","some","used","cell","state","number"] ["cells"] (jad jdr):=by walk_at "sc"
theorem jde:FnScope ["some","state","left","found"] ["some","state"] (jad jcr):=by walk_at "sc"
theorem jdf:FnScope ["plane","spot","found"] ["plane","spot"] (jad jcs):=by walk_at "sc"
theorem jcT:FnScope ["one","other"] ["one","other"] (jad jcc):=by walk_at "sc"
theorem jdB:FnScope ["corners","a","b","c","one","other","upright","found","by"] ["corners"] (jad jaH):=by walk_at "sc"
theorem jcd:FnScope ["tree"] ["tree"] (jad jbz):=by walk_at "sc"
theorem jdC:FnScope ["found"] ["found"] (jad jcK):=by walk_at "sc"
theorem jcU:FnScope ["found"] ["found"] (jad jbj):=by walk_at "sc"
theorem jcy:FnScope ["found"] ["found"] (jad ja8):=by walk_at "sc"
theorem jbY:FnScope ["found"] ["found"] (jad jaX):=by walk_at "sc"
theorem jdD:FnScope ["state"] ["state"] (jad jcL):=by walk_at "sc"
theorem jdE:FnScope ["pieces","plane","sign","number","board","heights"] ["pieces","plane","sign"] (jad jbH):=by walk_at "sc"
theorem jd6:FnScope ["board","plane"] ["board","plane"] (jad jbV):=by walk_at "sc"
theorem jbI:FnScope ["tree","rank","planes","plane","here","below","above","places","beneath"] ["tree","rank","planes"] (jad jaE):=by walk_at "sc"
theorem jmi:FnScope ["script","cells","state","some","raws","mixed","row","handed","found","made","piece","rank","planes","number","board","told"] ["script"] (jad jdS):=by walk_at "sc"
theorem ok_gd (T:Tx K mg t1 t2) (F:At K mg "greatest_divisor" jbw ["one","other"] []):jal P w K mg base CX0 1 "greatest_divisor" ["one","other"] [] spGd:=by
 refine F.ok jbX (fun vs H Q E h=>?_) (fun f cdv A outer s H vs Q E hr h=>?_)
 ·obtain⟨a,b,rfl,_⟩:=h;rfl
 obtain⟨a,b,rfl,ha,hb,q⟩:=h;have S:=jbX;refine⟨_,(jae (jas (i:=2) S.nd rfl (Or.inl rfl) (jav (jiO rfl) rfl T.m_max boot_max (jaa (jav jc0 rfl T.m_abs boot_abs (jaa (pv 0) jac jag)) (jaa (jav jc0 rfl T.m_abs boot_abs (jaa (pv 1) jac jag)) jac jaN) jaN)))
  (jae (jas (i:=3) S.nd rfl (Or.inl rfl) (jav (jiP rfl) rfl T.m_min boot_min (jaa (jav jc0 rfl T.m_abs boot_abs (jaa (pv 0) jac jag)) (jaa (jav jc0 rfl T.m_abs boot_abs (jaa (pv 1) jac jag)) jac jaN) jaN)))
  (jae (jdu PassesOwn.never (jar jgF (jiZ PySem.F.plainAttrs_int PySem.F.slot_int_bit_length PySem.F.type_int_bit_length jm7 (pv 3)) (jiC rfl T.m_SHORT_BITS T.r_SHORT_BITS) (jaz _)) jbQ)
  (jae (jdu PassesOwn.never (jar jem (pv 3) jab (jaz _))
  (jae (jas (i:=5) S.nd rfl (Or.inl rfl) (jaq jb1 (pv 2) (pv 3)))
  (jae (jas (i:=2) S.nd rfl (Or.inl rfl) (pv 3))
  (jai (jas (i:=3) S.nd rfl (Or.inl rfl) (pv 5))))))
  (jai (jap (pv 2))))))),?_⟩
 walk_at "rd";have hg:Int.gcd (if (if b<0 then -b else b)>(if a<0 then -a else a) then (if b<0 then -b else b) else (if a<0 then -a else a)) (if (if b<0 then -b else b)<(if a<0 then -a else a) then (if b<0 then -b else b) else (if a<0 then -a else a))=Int.gcd a b:=(jio _ _).trans (jnk a b);have hM:0<=(if (if b<0 then -b else b)>(if a<0 then -a else a) then (if b<0 then -b else b) else (if a<0 then -a else a)):=by split<;>split<;>omega
 have hm:0<=(if (if b<0 then -b else b)<(if a<0 then -a else a) then (if b<0 then -b else b) else (if a<0 then -a else a)):=by split<;>split<;>omega
 have hs:Small (if (if b<0 then -b else b)<(if a<0 then -a else a) then (if b<0 then -b else b) else (if a<0 then -a else a)):=by
  exact Small.ite (Small.ite hb.neg hb) (Small.ite ha.neg ha)
 generalize (if (if b<0 then -b else b)>(if a<0 then -a else a) then (if b<0 then -b else b) else (if a<0 then -a else a))=M at hg hM |-
 generalize (if (if b<0 then -b else b)<(if a<0 then -a else a) then (if b<0 then -b else b) else (if a<0 then -a else a))=m at hg hm hs |-
 have hz:Builtin.Int.intBits m<=1990:=L2.jdM hs;refine⟨fun _ σ H1=>σ=[some (.int a),some (.int b),some (.int M),some (.int m),none,none]/\H1=H,⟨0,rfl,rfl⟩,?_⟩;rintro _ σ H1 ⟨rfl,rfl⟩;walk_at "rd";rw[if_neg (by omega)];refine⟨fun n σ H2=>H2=H1/\∃(x y:Int) (o:Option V),σ=[some (.int a),some (.int b),some (.int x),some (.int y),none,o]/\0<=x/\0<=y/\Int.gcd x y=Int.gcd a b/\n=y.toNat,⟨_,rfl,M,m,none,rfl,hM,hm,hg,rfl⟩,?_⟩;rintro n σ H2 ⟨rfl,x,y,o,rfl,hx,hy,hgg,rfl⟩;walk_at "rd";by_cases c:y=0
 ·subst c;rw[if_pos rfl];rw[<- hgg,Int.gcd_zero_right] at q;have e2:((x.natAbs:Nat):Int)=x:=by omega
  rw[e2] at q;exact q
 ·rw[if_neg c];have b1:=xbo x c;have b2:=xbc x (show 0<y by omega);exact⟨fun σ' H'=>σ'=[some (V.int a),some (V.int b),some (V.int y),some (V.int (x % y)),none,some (V.int (x % y))]/\H'=H2,fun σ' H' ⟨h1,h2⟩=>⟨_,by omega,h2,y,x % y,_,h1,by omega,b1,(jlj x y hx).trans hgg,rfl⟩,by omega,rfl,rfl⟩
theorem jo9 (T:Tx K mg t1 t2) (F:At K mg "in_lowest_terms" jaZ ["numbers"] []) (dY:jal P w K mg base CX0 1 "greatest_divisor" ["one","other"] [] spGd):jal P w K mg base CX0 2 "in_lowest_terms" ["numbers"] [] jlk:=by
 refine F.ok jb5 (fun vs H Q E h=>?_) (fun f cdv A outer s H vs Q E hr h=>?_)
 ·obtain⟨a,ns,rfl,_⟩:=h;rfl
 obtain⟨a,ns,rfl,ha,hl,hs,hg,q⟩:=h;have S:=jb5;refine⟨_,(jae (jas (i:=1) S.nd rfl (Or.inr rfl) jab)
  (jae (jbE PassesOwn.never rfl (jcu (pv 0)) (jan (i:=2) S.nd rfl (Or.inl rfl))
  (jae (jas (i:=1) S.nd rfl (Or.inr rfl) (jah dY hr.m rfl jat (jaa (pv 1) (jaa (pv 2) jac jag) jag)))
  (jai (jaO (jar jea (pv 1) jab (jaz _))
  (jai (jap (jaK jbt rfl T.m_tuple boot_tuple (jaa (pv 0) jac jag))))
  jaA))))
  (jai (jap (jaK jbt rfl T.m_tuple boot_tuple (jaa (ja4 rfl (N':=["number","divisor"]) (ix:=[1]) ⟨rfl,rfl,by decide +kernel,by decide +kernel,by decide +kernel,(show ∀y:Str × NameKind,y∈_->y.2=NameKind.free->(jad jaZ).names.lookup y.1=some .cell\/(jad jaZ).names.lookup y.1=some .free from by decide +kernel),(.cons rfl (.inl rfl) rfl .nil)⟩ (jcu (pv 0)) (fun _ _ _ _=>jan (i:=0) (show (["number","divisor"]:List Str).Nodup from by decide +kernel) rfl (Or.inl rfl)) (fun _ _ _ _=>jaR) (fun _ _ _ _=>(jaq jfp (pv 0) (pv 1)))) jac jb4)))))),?_⟩
 walk_at "rd";refine⟨_,rfl,a,rfl,⟨_,SqT.of ha⟩,jiJ (K:=K) (a:=a) (xs:=ns.map V.int) (fun i σ H2=>H2=H/\∃o:Option V,σ=[some (.ref a),some (.int (gl (ns.take i))),o]) ⟨rfl,none,rfl⟩ (fun i σ H2 _ ⟨h,_⟩=>by rw[h];exact SqT.of ha) ?_ ?_⟩
 ·rintro i v σ H2 hi ⟨rfl,o,rfl⟩;obtain⟨z,rfl,hz⟩:=jjm hi;walk_at "rd";refine⟨_,_,rfl,jhs fun n hn=>hs n (xbi hn),hs z (xav hz),?_⟩;walk_at "rd";rw[<- jgh hz];refine jcA (fun c=>⟨_,.inr ⟨SqT.of ha,?_⟩⟩) fun c=>⟨rfl,_,rfl⟩;have g1:gl ns=1:=jeU c;refine q a H2 (Same.refl _) ?_;rw[g1,jgM];exact ha
 ·rintro σ H2 ⟨rfl,o,rfl⟩;walk_at "rd";have el:(ns.map V.int).length=ns.length:=xaa _;rw[el,xa3];have gp:0<gl ns:=by have:=jbh ns;omega
  refine⟨_,rfl,a,rfl,⟨_,SqT.of ha⟩,fun acc hacc=>jfo (K:=K) (a:=a) (zs:=ns.map V.int) (fun i xs H3=>Same H2 H3/\H3 acc=some (.lst xs)/\xs=((ns.take i).map (· / gl ns)).map V.int) ⟨Same.new hacc _,jaf,rfl⟩ (fun i xs H3 _ h=>h.1.tup (SqT.of ha)) ?_ ?_⟩
  ·rintro i v xs H3 hi ⟨h1,h2,rfl⟩;obtain⟨z,rfl,hz⟩:=jjm hi;walk_at "rd";have li:=(xag.mp hz).1;refine⟨gp,(jhs hs).bd.fit,h2,?_,Same.keep h1 hacc,jaf,?_⟩
   ·rw[xaa,xaa,xau];exact ji3 (by omega)
   ·rw[xaZ,hz,xaj,xaj];rfl
  ·rintro xs H3 ⟨h1,h2,rfl⟩;rw[el,xa3] at h2;exact⟨acc,rfl,_,.inl ⟨SqL.of h2,fun l hl=>q l _ (h1.trans (Same.new hl _)) jaf⟩⟩
theorem jju (h:∀(i:Nat) (y:V),ys[i]?=some y->∃v:Int,y=V.int v):∃ms:List Int,ys=ms.map V.int:=by
  induction ys with
  | nil=>exact⟨[],rfl⟩
  | cons y r ih =>
    obtain⟨v,rfl⟩:=h 0 y rfl;obtain⟨ms,rfl⟩:=ih fun i z hz=>h (i+1) z hz;exact⟨v::ms,rfl⟩
theorem jip (T:Tx K mg t1 t2) (F:At K mg "crossed" jew ["one","other"] []):jal P w K mg base CX0 1 "crossed" ["one","other"] [] jjn:=by
 refine F.ok je4 (fun vs H Q E h=>?_) (fun f cdv A outer s H vs Q E hr h=>?_)
 ·obtain⟨r,p,a,b,c,x,y,z,rfl,_⟩:=h;rfl
 obtain⟨r,p,a,b,c,x,y,z,rfl,⟨h1,sa,sb,sc⟩,⟨h2,sx,sy,sz⟩,q⟩:=h;have S:=je4;refine⟨_,(jai (jap (jaQ (jaa (jaq ja5 (jaq jaw (jaj jao (pv 0) jab) (jaj jao (pv 1) jab)) (jaq jaw (jaj jao (pv 0) jab) (jaj jao (pv 1) jab))) (jaa (jaq ja5 (jaq jaw (jaj jao (pv 0) jab) (jaj jao (pv 1) jab)) (jaq jaw (jaj jao (pv 0) jab) (jaj jao (pv 1) jab))) (jaa (jaq ja5 (jaq jaw (jaj jao (pv 0) jab) (jaj jao (pv 1) jab)) (jaq jaw (jaj jao (pv 0) jab) (jaj jao (pv 1) jab))) jac jbf) jbf) jbf)))),?_⟩;have k1:SqT K H r [.int a,.int b,.int c]:=SqT.of h1;have k2:SqT K H p [.int x,.int y,.int z]:=SqT.of h2;have fa:=sa.bd.fit;have fb:=sb.bd.fit;have fc:=sc.bd.fit;have fx:=sx.bd.fit;have fy:=sy.bd.fit;have fz:=sz.bd.fit;walk_at "rf";walk_at "gf";intro t ht;exact q t _ (Same.new ht _) jaf
theorem jpa (T:Tx K mg t1 t2) (F:At K mg "determinant" jcn ["one","other","third"] []) (Dt:jal P w K mg base CX0 1 "crossed" ["one","other"] [] jjn):jal P w K mg base CX0 2 "determinant" ["one","other","third"] [] jo7:=by
 refine F.ok jc9 (fun vs H Q E h=>?_) (fun f cdv A outer s H vs Q E hr h=>?_)
 ·obtain⟨r,p,e,a,b,c,x,y,z,u,v,o,rfl,_⟩:=h;rfl
 obtain⟨r,p,e,a,b,c,x,y,z,u,v,o,rfl,h1,h2,h3,q⟩:=h;have S:=jc9;refine⟨_,(jae (jas (i:=3) S.nd rfl (Or.inl rfl) (jah Dt hr.m rfl jat (jaa (pv 0) (jaa (pv 1) jac jag) jag)))
  (jai (jap (jaq jbq (jaq jbq (jaq jaw (jaj jao (pv 3) jab) (jaj jao (pv 2) jab)) (jaq jaw (jaj jao (pv 3) jab) (jaj jao (pv 2) jab))) (jaq jaw (jaj jao (pv 3) jab) (jaj jao (pv 2) jab)))))),?_⟩
 walk_at "rf";refine⟨r,p,a,b,c,x,y,z,rfl,h1,h2,fun t H1 s1 e1=>?_⟩;have k1:SqT K H1 t _:=SqT.of e1;have k2:SqT K H1 e [.int u,.int v,.int o]:=SqT.of (s1 _ _ h3.1);have fu:=h3.2.1.bd.fit;have fv:=h3.2.2.1.bd.fit;have fo:=h3.2.2.2.bd.fit;have ma:∀{i j k l:Int},Sm2 i->Sm2 j->Sm2 k->Sm2 l->Fit (i*j-k*l):=fun h1 h2 h3 h4=>Bd.fit (n:=1301) (Bd.sub (Bd.mul (n:=650) (m:=650) h1 h2) (Bd.mul (n:=650) (m:=650) h3 h4));have g1:=ma h1.2.2.1 h2.2.2.2 h1.2.2.2 h2.2.2.1;have g2:=ma h1.2.2.2 h2.2.1 h1.2.1 h2.2.2.2;have g3:=ma h1.2.1 h2.2.2.1 h1.2.2.1 h2.2.1;walk_at "gf";exact q _ s1
theorem jiq (T:Tx K mg t1 t2) (F:At K mg "without" jcG ["spot","place"] []):jal P w K mg base CX0 1 "without" ["spot","place"] [] jgi:=by
  refine F.ok je5 (fun vs H Q E h=>?_) (fun f cdv A outer s H vs Q E hr h=>?_)
  . obtain⟨r,k,p,rfl,_⟩:=h
    rfl
  obtain⟨r,k,p,rfl,h1,k0,k3,q⟩:=h;have S:=je5;refine⟨_,(jai (jap (jaK jbt rfl T.m_tuple boot_tuple (jaa (ja4 rfl (N':=["k","spot","place"]) (ix:=[0,1]) ⟨rfl,rfl,by decide +kernel,by decide +kernel,by decide +kernel,(show ∀y:Str × NameKind,y∈_->y.2=NameKind.free->(jad jcG).names.lookup y.1=some .cell\/(jad jcG).names.lookup y.1=some .free from by decide +kernel),(.cons rfl (.inl rfl) rfl (.cons rfl (.inl rfl) rfl .nil))⟩ (jaU rfl T.m_range (jaa jab jac jam)) (fun _ _ _ _=>jan (i:=0) (show (["k","spot","place"]:List Str).Nodup from by decide +kernel) rfl (Or.inl rfl)) (fun _ _ _ _=>(jfn (jar jem (pv 0) (pv 2) (jaz _)))) (fun _ _ _ _=>(jaj (jaY (K:=K) rfl) (pv 1) (pv 0)))) jac jb4)))),?_⟩;have k_h1:=h1.sq (K:=K);have e:k=0\/k=1\/k=2\/k=3:=by omega
  walk_at "rf";walk_at "gf";intro acc hacc;refine jm8 (n:=4) (fun i=>.int (match i with | 0=>p.x | 1=>p.y | 2=>p.z | _=>p.w)) (fun i=>!decide ((i:Int)=k)) (by decide) hacc ?_ ?_ ?_
  . intro i H3 R hi s3 hR
    walk_at "rf";have z:=hR H3 (Same.refl _);rw[xcu];exact z
  . intro i H3 R hi ci s3 hR
    have k1:=s3.tup k_h1
    match i,hi with
    | 0, _ =>
      walk_at "rf";walk_at "gf";exact hR _ (Same.refl _)
    | 1, _ =>
      walk_at "rf";walk_at "gf";exact hR _ (Same.refl _)
    | 2, _ =>
      walk_at "rf";walk_at "gf";exact hR _ (Same.refl _)
    | 3, _ =>
      walk_at "rf";walk_at "gf";exact hR _ (Same.refl _)
  intro H1 s1 e1;refine FoR.tupOf (X:=True) (SqL.of e1) fun t H2 s2 e2=>q t H2 (s1.trans s2) ?_;rw[e2];rcases e with rfl | rfl | rfl | rfl<;>rfl
theorem jjv {k:Int} (hp:p.sm) (h:H r=some (.tup ((wo k p).map V.int))):∃a b c,wo k p=[a,b,c]/\Tup3 H r a b c:=by
 by_cases k0:k=0
 ·have e:wo k p=[p.y,p.z,p.w]:=if_pos k0;rw[e] at h;exact⟨_,_,_,e,h,hp.2.1,hp.2.2.1,hp.2.2.2⟩
 by_cases k1:k=1
 ·have e:wo k p=[p.x,p.z,p.w]:=by unfold wo;rw[if_neg k0,if_pos k1]
  rw[e] at h;exact⟨_,_,_,e,h,hp.1,hp.2.2.1,hp.2.2.2⟩
 by_cases k2:k=2
 ·have e:wo k p=[p.x,p.y,p.w]:=by unfold wo;rw[if_neg k0,if_neg k1,if_pos k2]
  rw[e] at h;exact⟨_,_,_,e,h,hp.1,hp.2.1,hp.2.2.2⟩
 have e:wo k p=[p.x,p.y,p.z]:=by unfold wo;rw[if_neg k0,if_neg k1,if_neg k2]
 rw[e] at h;exact⟨_,_,_,e,h,hp.1,hp.2.1,hp.2.2.1⟩
theorem Tup3.keep {b:Int} (h:Tup3 H r a b c) (s:Same H H'):Tup3 H' r a b c:=⟨s _ _ h.1,h.2⟩
theorem jlm (T:Tx K mg t1 t2) (F:At K mg "minor_of" jdO ["one","other","third","place"] []) (dS:jal P w K mg base CX0 1 "without" ["spot","place"] [] jgi) (De:jal P w K mg base CX0 2 "determinant" ["one","other","third"] [] jo7):jal P w K mg base CX0 3 "minor_of" ["one","other","third","place"] [] jfA:=by
 refine F.ok jeB (fun vs H Q E h=>?_) (fun f cdv A outer s H vs Q E hr h=>?_)
 ·obtain⟨r,e,t,k,p,o,u,rfl,_⟩:=h;rfl
 obtain⟨r,e,t,k,p,o,u,rfl,h1,h2,h3,k0,k3,q⟩:=h;have S:=jeB;refine⟨_,(jai (jap (jah De hr.m rfl jat (jaa (jah dS hr.m rfl jat (jaa (pv 0) (jaa (pv 3) jac jag) jag)) (jaa (jah dS hr.m rfl jat (jaa (pv 1) (jaa (pv 3) jac jag) jag)) (jaa (jah dS hr.m rfl jat (jaa (pv 2) (jaa (pv 3) jac jag) jag)) jac jaN) jaN) jaN)))),?_⟩;walk_at "rf";refine⟨r,k,p,rfl,h1,k0,k3,fun t1 H1 s1 e1=>?_⟩;refine⟨e,k,o,rfl,h2.keep s1,k0,k3,fun t2 H2 s2 e2=>?_⟩;refine⟨t,k,u,rfl,h3.keep (s1.trans s2),k0,k3,fun t3 H3 s3 e3=>?_⟩;obtain⟨a,b,c,w1,z1⟩:=jjv h1.2 e1;obtain⟨a2,b2,c2,w2,z2⟩:=jjv h2.2 e2;obtain⟨a3,b3,c3,w3,z3⟩:=jjv h3.2 e3;have em:jaB k p o u=jbK a b c a2 b2 c2 a3 b3 c3:=by
  unfold jaB;rw[w1,w2,w3];rfl
 refine⟨t1,t2,t3,a,b,c,a2,b2,c2,a3,b3,c3,rfl,z1.keep (s2.trans s3),z2.keep s3,z3,fun H4 s4=>?_⟩;rw[<- em];exact q H4 (s1.trans (s2.trans (s3.trans s4)))
theorem jnl (T:Tx K mg t1 t2) (F:At K mg "in_line" jex ["one","other","third"] []) (dg:jal P w K mg base CX0 3 "minor_of" ["one","other","third","place"] [] jfA):jal P w K mg base CX0 4 "in_line" ["one","other","third"] [] jmf:=by
  refine F.ok je6 (fun vs H Q E h=>?_) (fun f cdv A outer s H vs Q E hr h=>?_)
  . obtain⟨r,e,t,p,o,u,rfl,_⟩:=h
    rfl
  obtain⟨r,e,t,p,o,u,rfl,h1,h2,h3,q⟩:=h;have S:=je6;refine⟨_,(jae (jbE PassesOwn.never rfl (jaU rfl T.m_range (jaa jab jac jam)) (jan (i:=3) S.nd rfl (Or.inl rfl))
    (jai (jaO (jar jem (jah dg hr.m rfl jat (jaa (pv 0) (jaa (pv 1) (jaa (pv 2) (jaa (pv 3) jac jag) jag) jag) jag)) jab (jaz _))
    (jai (jap jb6))
    jaA)))
    (jai (jap jb6))),?_⟩
  walk_at "rf";walk_at "gf";refine jbR (lo:=0) (n:=3) (fun i σ H2=>Same H H2/\∃o3:Option V,σ=[some (.ref r),some (.ref e),some (.ref t),o3]/\(1<=i->jaB 0 p o u=0)/\(2<=i->jaB 1 p o u=0)/\(3<=i->jaB 2 p o u=0)) ⟨Same.refl _,none,rfl,by simp,by simp,by simp⟩ ?_ ?_
  . rintro i σ H2 hi ⟨s2,o3,rfl,e0,e1,e2⟩
    walk_at "rf";refine⟨r,e,t,_,p,o,u,rfl,h1.keep s2,h2.keep s2,h3.keep s2,by omega,by omega,fun H3 s3=>?_⟩;have ei:(0:Int)+(i:Int)=(i:Int):=xcu _;rw[ei]
    match i,hi with
    | 0, _ =>
      walk_at "rf";refine jcA (fun c=>⟨s2.trans s3,fun _=>c,fun h=>absurd h (by decide),fun h=>absurd h (by decide)⟩) fun c=>?_;have ef:inl p o u=false:=decide_eq_false fun z=>c z.1;exact ef▸q H3 (s2.trans s3)
    | 1, _ =>
      have d0:=e0 (by decide);walk_at "rf";refine jcA (fun c=>⟨s2.trans s3,fun _=>d0,fun _=>c,fun h=>absurd h (by decide)⟩) fun c=>?_;have ef:inl p o u=false:=decide_eq_false fun z=>c z.2.1;exact ef▸q H3 (s2.trans s3)
    | 2, _ =>
      have d0:=e0 (by decide);have d1:=e1 (by decide);walk_at "rf";refine jcA (fun c=>⟨s2.trans s3,fun _=>d0,fun _=>d1,fun _=>c⟩) fun c=>?_;have ef:inl p o u=false:=decide_eq_false fun z=>c z.2.2;exact ef▸q H3 (s2.trans s3)
  . rintro σ H2 ⟨s2,o3,rfl,e0,e1,e2⟩
    have ef:inl p o u=true:=decide_eq_true ⟨e0 (by decide),e1 (by decide),e2 (by decide)⟩;exact ef▸q H2 s2
theorem mem4 {b:Int} (ha:Small a) (hb:Small b) (hc:Small c) (hd:Small d):∀n∈[a,b,c,d],Small n:=fun n hn=>by
 simp only[xap,xbY,or_false] at hn;rcases hn with rfl | rfl | rfl | rfl<;>assumption
theorem gl4 {b:Int} (h:¬(a=0/\b=0/\c=0)):0<gl [a,b,c,d]:=by
 by_cases c1:a=0
 ·by_cases c2:b=0
  ·exact jd0 (n:=c) (by simp) fun z=>h ⟨c1,c2,z⟩
  ·exact jd0 (n:=b) (by simp) c2
 ·exact jd0 (n:=a) (by simp) c1
def vneg (v:V):V:=match v with | .int i=>.int (-i) | _=>v
theorem jln (ns:List Int):(ns.map V.int).map vneg=(ns.map fun n=>-n).map V.int:=by
 rw[xaO,xaO];rfl
theorem jjw (T:Tx K mg t1 t2) (F:At K mg "turned_about" jbi ["plane"] []):jal P w K mg base CX0 1 "turned_about" ["plane"] [] jht:=by
 refine F.ok jcN (fun vs H Q E h=>?_) (fun f cdv A outer s H vs Q E hr h=>?_)
 ·obtain⟨r,ns,rfl,_⟩:=h;rfl
 obtain⟨r,ns,rfl,h1,hl,q⟩:=h;have S:=jcN;refine⟨_,(jai (jap (jaK jbt rfl T.m_tuple boot_tuple (jaa (ja4 rfl (N':=["number"]) (ix:=[]) ⟨rfl,rfl,by decide +kernel,by decide +kernel,by decide +kernel,(show ∀y:Str × NameKind,y∈_->y.2=NameKind.free->(jad jbi).names.lookup y.1=some .cell\/(jad jbi).names.lookup y.1=some .free from by decide +kernel),.nil⟩ (jcu (pv 0)) (fun _ _ _ _=>jan (i:=0) (show (["number"]:List Str).Nodup from by decide +kernel) rfl (Or.inl rfl)) (fun _ _ _ _=>jaR) (fun _ _ _ _=>(jd9 jcv (pv 0)))) jac jb4)))),?_⟩;have k1:SqT K H r (ns.map V.int):=SqT.of h1;walk_at "rf";walk_at "gf";intro acc hacc;refine jja vneg (by rw[xaa];omega) hacc k1 ?_ ?_
 ·intro z H3 R hz s3 hR;obtain⟨m,hm,rfl⟩:=xax.mp hz;walk_at "rd";exact hR _ (Same.refl _)
 intro H1 s1 e1;rw[jln] at e1;exact FoR.tupOf (X:=True) (SqL.of e1) fun t H2 s2 e2=>q t H2 (s1.trans s2) e2
theorem jnm (T:Tx K mg t1 t2) (F:At K mg "sign_of" jev ["number"] []):jal P w K mg base CX0 1 "sign_of" ["number"] [] jjq:=by
 refine F.ok je3 (fun vs H Q E h=>?_) (fun f cdv A outer s H vs Q E hr h=>?_)
 ·obtain⟨a,rfl,_⟩:=h;rfl
 obtain⟨n,rfl,q⟩:=h;have S:=je3;refine⟨_,(jae (jaO (jar jgF (pv 0) jab (jaz _))
  (jai (jap jab))
  jaA)
  (jae (jaO (jar jfZ (pv 0) jab (jaz _))
  (jai (jap (jd9 jcv jab)))
  jaA)
  (jai (jap jab)))),?_⟩
 unfold sgn at q;walk_at "rd";refine jcA (fun c=>?_) fun c=>jcA (fun c1=>?_) fun c1=>?_
 ·rw[if_pos c] at q;exact q
 ·rw[if_neg c,if_pos c1] at q;exact q
 ·rw[if_neg c,if_neg c1] at q;exact q
theorem jlo (T:Tx K mg t1 t2) (F:At K mg "is_plain" jdP ["plane"] []):jal P w K mg base CX0 1 "is_plain" ["plane"] [] jjo:=by
  refine F.ok jeC (fun vs H Q E h=>?_) (fun f cdv A outer s H vs Q E hr h=>?_)
  . obtain⟨r,a,b,c,d,rfl,_⟩:=h
    rfl
  obtain⟨r,a,b,c,d,rfl,h1,q⟩:=h;have S:=jeC;refine⟨_,(jae (jbE PassesOwn.never rfl (jcu (jb2 jl5 (pv 0) jdi (jck jab))) (jan (i:=1) S.nd rfl (Or.inl rfl))
    (jai (jaO (jar jem (pv 1) jab (jaz _))
    (jai (jap (jdh jgF (pv 1) jab (jaz _))))
    jaA)))
    (jai (jap jb6))),?_⟩
  walk_at "rf";refine⟨r,_,rfl,SqT.of h1,(show ¬(HT.sIx 4 0 none=0/\HT.sIx 4 4 (some 3)=4) by decide),fun p hp=>?_⟩;have sp:=Same.new hp (.tup (jeO [.int a,.int b,.int c,.int d] none (some 3)));have ep:upd H p (.tup (jeO [.int a,.int b,.int c,.int d] none (some 3))) p=some (.tup ([a,b,c].map V.int)):=jaf;generalize upd H p (.tup (jeO [.int a,.int b,.int c,.int d] none (some 3)))=H1 at sp ep |-
  have kp:SqT K H1 p ([a,b,c].map V.int):=SqT.of ep;walk_at "gf";have q:=q H1 sp;unfold plb at q;refine jiJ (K:=K) (a:=p) (xs:=[a,b,c].map V.int) (fun i σ H2=>H2=H1/\∃o1:Option V,σ=[some (.ref r),o1]/\(1<=i->a=0)/\(2<=i->b=0)/\(3<=i->c=0)) ⟨rfl,none,rfl,by simp,by simp,by simp⟩ (fun i σ H2 _ ⟨h,_⟩=>by rw[h];exact kp) ?_ ?_
  . rintro i v σ H2 hi ⟨rfl,o1,rfl,e0,e1,e2⟩
    match i,hi with
    | 0, hi =>
      cases hi;walk_at "rf";refine jcA (fun cc=>⟨fun _=>cc,fun h=>absurd h (by decide),fun h=>absurd h (by decide)⟩) fun cc=>?_;rw[if_pos cc] at q;exact q
    | 1, hi =>
      cases hi;have d0:=e0 (by decide);walk_at "rf";refine jcA (fun cc=>⟨fun _=>d0,fun _=>cc,fun h=>absurd h (by decide)⟩) fun cc=>?_;rw[if_neg (fun n=>n d0),if_pos cc] at q;exact q
    | 2, hi =>
      cases hi;have d0:=e0 (by decide);have d1:=e1 (by decide);walk_at "rf";refine jcA (fun cc=>⟨fun _=>d0,fun _=>d1,fun _=>cc⟩) fun cc=>?_;rw[if_neg (fun n=>n d0),if_neg (fun n=>n d1),if_pos cc] at q;exact q
  . rintro σ H2 ⟨rfl,o1,rfl,e0,e1,e2⟩
    rw[if_neg (fun n=>n (e0 (show 1<=3 by decide))),if_neg (fun n=>n (e1 (show 2<=3 by decide))),if_neg (fun n=>n (e2 (show 3<=3 by decide)))] at q;exact q
theorem jlp (T:Tx K mg t1 t2) (F:At K mg "rough_plane" jco ["one","other","third"] []) (dg:jal P w K mg base CX0 3 "minor_of" ["one","other","third","place"] [] jfA):jal P w K mg base CX0 4 "rough_plane" ["one","other","third"] [] jjp:=by
 refine F.ok jda (fun vs H Q E h=>?_) (fun f cdv A outer s H vs Q E hr h=>?_)
 ·obtain⟨r,e,t,p,o,u,rfl,_⟩:=h;rfl
 obtain⟨r,e,t,p,o,u,rfl,h1,h2,h3,q⟩:=h;have S:=jda;refine⟨_,(jai (jap (jaQ (jaa (jah dg hr.m rfl jat (jaa (pv 0) (jaa (pv 1) (jaa (pv 2) (jaa jab jac jam) jag) jag) jag)) (jaa (jd9 jcv (jah dg hr.m rfl jat (jaa (pv 0) (jaa (pv 1) (jaa (pv 2) (jaa jab jac jam) jag) jag) jag))) (jaa (jah dg hr.m rfl jat (jaa (pv 0) (jaa (pv 1) (jaa (pv 2) (jaa jab jac jam) jag) jag) jag)) (jaa (jah dg hr.m rfl jat (jaa (pv 0) (jaa (pv 1) (jaa (pv 2) (jaa jab jac jam) jag) jag) jag)) jac jaN) jaN) jh9) jaN)))),?_⟩;walk_at "rf";refine⟨r,e,t,0,p,o,u,rfl,h1,h2,h3,by decide,by decide,fun H1 s1=>?_⟩;refine⟨r,e,t,1,p,o,u,rfl,h1.keep s1,h2.keep s1,h3.keep s1,by decide,by decide,fun H2 s2=>?_⟩;have s12:=s1.trans s2;walk_at "rf";refine⟨r,e,t,2,p,o,u,rfl,h1.keep s12,h2.keep s12,h3.keep s12,by decide,by decide,fun H3 s3=>?_⟩;have s13:=s12.trans s3;refine⟨r,e,t,3,p,o,u,rfl,h1.keep s13,h2.keep s13,h3.keep s13,by decide,by decide,fun H4 s4=>?_⟩;exact⟨by decide,fun g hg=>q g _ (s13.trans (s4.trans (Same.new hg _))) jaf⟩
theorem jhx {b z u v w:Int} (ha:Sm2 a) (hb:Sm2 b) (hc:Sm2 c) (hx:Sm2 x) (hy:Sm2 y) (hz:Sm2 z) (hu:Sm2 u) (hv:Sm2 v) (hw:Sm2 w):Bd 1953 (jbK a b c x y z u v w):=by
 have m:∀{i j k l e:Int},Sm2 i->Sm2 j->Sm2 k->Sm2 l->Sm2 e->Bd 1951 ((i*j-k*l)*e):=fun h1 h2 h3 h4 h5=>Bd.mul (n:=1301) (m:=650) (Bd.sub (Bd.mul (n:=650) (m:=650) h1 h2) (Bd.mul (n:=650) (m:=650) h3 h4)) h5;exact Bd.add (Bd.add (m hb hz hc hy hu) (m hc hx ha hz hv)) (Bd.mono (n:=1951) (m ha hy hb hx hw))
theorem jhy {o u:Pt} (hp:p.sm) (ho:o.sm) (hu:u.sm):Small (jaB 0 p o u)/\Small (jaB 1 p o u)/\Small (jaB 2 p o u)/\Small (jaB 3 p o u):=by
 obtain⟨a,b,c,d⟩:=hp;obtain⟨a',b',c',d'⟩:=ho;obtain⟨a2,b2,c2,d2⟩:=hu;exact⟨Bd.mono (n:=1953) (jhx b c d b' c' d' b2 c2 d2),Bd.mono (n:=1953) (jhx a c d a' c' d' a2 c2 d2),Bd.mono (n:=1953) (jhx a b d a' b' d' a2 b2 d2),Bd.mono (n:=1953) (jhx a b c a' b' c' a2 b2 c2)⟩
theorem jlq (T:Tx K mg t1 t2) (F:At K mg "made_plane" jcH ["a","b","c","d"] []) (dz:jal P w K mg base CX0 2 "in_lowest_terms" ["numbers"] [] jlk):jal P w K mg base CX0 3 "made_plane" ["a","b","c","d"] [] jjs:=by
 refine F.ok jdx (fun vs H Q E h=>?_) (fun f cdv A outer s H vs Q E hr h=>?_)
 ·obtain⟨a,b,c,d,rfl,_⟩:=h;rfl
 obtain⟨a,b,c,d,rfl,sa,sb,sc,sd,nz,q⟩:=h;have S:=jdx;refine⟨_,(jae (jaO (PW.pt (jfX (jar jea (pv 0) jab (jaz _)) (jfX (jar jea (pv 1) jab (jaz _)) (jfg (jar jea (pv 2) jab (jaz _))))))
  jbQ
  jaA)
  (jai (jap (jah dz hr.m rfl jat (jaa (jaQ (jaa (pv 0) (jaa (pv 1) (jaa (pv 2) (jaa (pv 3) jac jag) jag) jag) jag)) jac jaM))))),?_⟩
 have fin:∀p,H p=none->jlk [.ref p] (upd H p (.tup [.int a,.int b,.int c,.int d])) Q (fun _ _ _=>False):=fun p hp =>
  ⟨p,[a,b,c,d],rfl,jaf,by simp,mem4 sa sb sc sd,by have:=gl4 (d:=d) nz;omega,fun r H' h1 h2=>q r H' ((Same.new hp _).trans h1) h2⟩
 walk_at "rf";by_cases c1:a=0
 ·rw[if_pos c1];by_cases c2:b=0
  ·rw[if_pos c2];by_cases c3:c=0
   ·exact absurd ⟨c1,c2,c3⟩ nz
   ·rw[if_neg c3];exact⟨by decide,fin⟩
  ·rw[if_neg c2];exact⟨by decide,fin⟩
 ·rw[if_neg c1];exact⟨by decide,fin⟩
theorem jir (T:Tx K mg t1 t2) (F:At K mg "plane_through" jbT ["one","other","third"] []) (Dc:jal P w K mg base CX0 4 "rough_plane" ["one","other","third"] [] jjp) (Dk:jal P w K mg base CX0 3 "made_plane" ["a","b","c","d"] [] jjs) (Dr:jal P w K mg base CX0 1 "is_plain" ["plane"] [] jjo) (dZ:jal P w K mg base CX0 1 "turned_about" ["plane"] [] jht):jal P w K mg base CX0 5 "plane_through" ["one","other","third"] [] jez:=by
  refine F.ok jcx (fun vs H Q E h=>?_) (fun f cdv A outer s H vs Q E hr h=>?_)
  . obtain⟨r,e,t,p,o,u,rfl,_⟩:=h
    rfl
  obtain⟨r,e,t,p,o,u,rfl,h1,h2,h3,na,q⟩:=h;have S:=jcx;refine⟨_,(jae (jas (i:=3) S.nd rfl (Or.inl rfl) (jah Dc hr.m rfl jat (jaa (pv 0) (jaa (pv 1) (jaa (pv 2) jac jag) jag) jag)))
    (jae (jas (i:=4) S.nd rfl (Or.inl rfl) (jah Dk hr.m rfl jat (jaa (jaj jao (pv 3) jab) (jaa (jaj jao (pv 3) jab) (jaa (jaj jao (pv 3) jab) (jaa (jaj jao (pv 3) jab) jac jau) jau) jau) jau)))
    (jae (jaO (jbB (jah Dr hr.m rfl jat (jaa (pv 4) jac jag)))
    (jai (jap (pv 4)))
    jaA)
    (jai (jap (jah dZ hr.m rfl jat (jaa (pv 4) jac jag))))))),?_⟩
  obtain⟨m0,m1,m2,m3⟩:=jhy h1.2 h2.2 h3.2;walk_at "rf";refine⟨r,e,t,p,o,u,rfl,h1,h2,h3,fun g H1 s1 e1=>?_⟩;have kg:SqT K H1 g [.int (jaB 0 p o u),.int (-jaB 1 p o u),.int (jaB 2 p o u),.int (jaB 3 p o u)]:=SqT.of e1;walk_at "gf";refine⟨_,_,_,_,rfl,m0,m1.neg,m2,m3,fun z=>na ⟨z.1,by omega,z.2.2⟩,fun g2 H2 s2 e2=>?_⟩;have el:∃a b c d,low (rgh p o u)=[a,b,c,d]:=⟨_,_,_,_,rfl⟩;have e2':H2 g2=some (.tup ((low (rgh p o u)).map V.int)):=e2;obtain⟨a,b,c,d,el⟩:=el;unfold pln at q;rw[el] at q e2';walk_at "rf";refine⟨g2,a,b,c,d,rfl,e2',fun H3 s3=>?_⟩;have s13:=s1.trans (s2.trans s3);dsimp only at q;cases eb:plb a b c with
  | true =>
    rw[eb,if_pos rfl] at q;walk_at "rf";exact q g2 H3 s13 (s3 _ _ e2')
  | false =>
    rw[eb,if_neg (by decide)] at q;walk_at "rf";refine⟨g2,[a,b,c,d],rfl,s3 _ _ e2',by simp,fun g3 H4 s4 e4=>?_⟩;exact q g3 H4 (s13.trans s4) e4
theorem ok_ht (T:Tx K mg t1 t2) (F:At K mg "height_over" jcp ["plane","spot"] []):jal P w K mg base CX0 1 "height_over" ["plane","spot"] [] spHt:=by
 refine F.ok jdb (fun vs H Q E h=>?_) (fun f cdv A outer s H vs Q E hr h=>?_)
 ·obtain⟨r,e,a,b,c,d,p,rfl,_⟩:=h;rfl
 obtain⟨r,e,a,b,c,d,p,rfl,h1,sa,sb,sc,sd,h2,q⟩:=h;have S:=jdb;refine⟨_,(jai (jap (jaq ja5 (jaq jbq (jaq jbq (jaq jaw (jaj jao (pv 0) jab) (jaj jao (pv 1) jab)) (jaq jaw (jaj jao (pv 0) jab) (jaj jao (pv 1) jab))) (jaq jaw (jaj jao (pv 0) jab) (jaj jao (pv 1) jab))) (jaq jaw (jaj jao (pv 0) jab) (jaj jao (pv 1) jab))))),?_⟩;have k1:SqT K H r [.int a,.int b,.int c,.int d]:=SqT.of h1;have f1:=sa.bd.fit;have f2:=sb.bd.fit;have f3:=sc.bd.fit;have f4:=sd.bd.fit;have k_h2:=h2.sq (K:=K);have g0:=h2.2.fx;have g1:=h2.2.fy;have g2:=h2.2.fz;have g3:=h2.2.fw;walk_at "rf";walk_at "gf";exact q
theorem jnn (T:Tx K mg t1 t2) (F:At K mg "side_of" jey ["plane","spot"] []) (dQ:jal P w K mg base CX0 1 "sign_of" ["number"] [] jjq) (dC:jal P w K mg base CX0 1 "height_over" ["plane","spot"] [] spHt):jal P w K mg base CX0 2 "side_of" ["plane","spot"] [] jhu:=by
 refine F.ok je7 (fun vs H Q E h=>?_) (fun f cdv A outer s H vs Q E hr h=>?_)
 ·obtain⟨r,e,a,b,c,d,p,rfl,_⟩:=h;rfl
 obtain⟨r,e,a,b,c,d,p,rfl,h1,sa,sb,sc,sd,h2,q⟩:=h;have S:=je7;refine⟨_,(jai (jap (jah dQ hr.m rfl jat (jaa (jah dC hr.m rfl jat (jaa (pv 0) (jaa (pv 1) jac jag) jag)) jac jaN)))),?_⟩;walk_at "rf";exact⟨r,e,a,b,c,d,p,rfl,h1,sa,sb,sc,sd,h2,_,rfl,q⟩
theorem jlr (T:Tx K mg t1 t2) (F:At K mg "stands_first" jb8 ["one","other"] []):jal P w K mg base CX0 1 "stands_first" ["one","other"] [] jjr:=by
  refine F.ok jcM (fun vs H Q E h=>?_) (fun f cdv A outer s H vs Q E hr h=>?_)
  . obtain⟨r,e,p,o,rfl,_⟩:=h
    rfl
  obtain⟨r,e,p,o,rfl,h1,h2,q⟩:=h;have S:=jcM;refine⟨_,(jae (jbE PassesOwn.never rfl (jaU rfl T.m_range (jaa jab jac jam)) (jan (i:=2) S.nd rfl (Or.inl rfl))
    (jae (jas (i:=3) S.nd rfl (Or.inl rfl) (jaq jaw (jaj jao (pv 0) (pv 2)) (jaj jao (pv 1) jab)))
    (jae (jas (i:=4) S.nd rfl (Or.inl rfl) (jaq jaw (jaj jao (pv 1) (pv 2)) (jaj jao (pv 0) jab)))
    (jai (jaO (jar jem (pv 3) (pv 4) (jaz _))
    (jai (jap (jdh jfZ (pv 3) (pv 4) (jaz _))))
    jaA)))))
    (jai (jap jb6))),?_⟩
  have k_h1:=h1.sq (K:=K);have k_h2:=h2.sq (K:=K);have f0:=h1.2.fx;have f1:=h1.2.fy;have f2:=h1.2.fz;have f3:=h1.2.fw;have g0:=h2.2.fx;have g1:=h2.2.fy;have g2:=h2.2.fz;have g3:=h2.2.fw;unfold sfp at q;walk_at "rd";refine⟨3,rfl,by decide,by decide,jbR (lo:=0) (n:=3) (fun i σ H2=>H2=H/\∃(o0 o1 o2:Option V),σ=[some (.ref r),some (.ref e),o0,o1,o2]/\(1<=i->p.x*o.w=o.x*p.w)/\(2<=i->p.y*o.w=o.y*p.w)/\(3<=i->p.z*o.w=o.z*p.w)) ⟨rfl,none,none,none,rfl,by simp,by simp,by simp⟩ ?_ ?_⟩
  . rintro i σ H2 hi ⟨rfl,o0,o1,o2,rfl,e0,e1,e2⟩
    match i,hi with
    | 0, _ =>
      walk_at "rd";walk_at "go";refine jcA (fun c=>⟨fun _=>c,fun h=>absurd h (by decide),fun h=>absurd h (by decide)⟩) fun c=>?_;rw[sf,if_pos c] at q;exact q
    | 1, _ =>
      have d0:=e0 (by decide);walk_at "rd";walk_at "go";refine jcA (fun c=>⟨fun _=>d0,fun _=>c,fun h=>absurd h (by decide)⟩) fun c=>?_;rw[sf,if_neg (fun n=>n d0),if_pos c] at q;exact q
    | 2, _ =>
      have d0:=e0 (by decide);have d1:=e1 (by decide);walk_at "rd";walk_at "go";refine jcA (fun c=>⟨fun _=>d0,fun _=>d1,fun _=>c⟩) fun c=>?_;rw[sf,if_neg (fun n=>n d0),if_neg (fun n=>n d1),if_pos c] at q;exact q
  . rintro σ H2 ⟨rfl,o0,o1,o2,rfl,e0,e1,e2⟩
    rw[sf,if_neg (fun n=>n (e0 (by decide))),if_neg (fun n=>n (e1 (by decide))),if_neg (fun n=>n (e2 (by decide)))] at q;walk_at "rd";exact q
theorem jno (T:Tx K mg t1 t2) (F:At K mg "flat_axis" jdo ["plane"] []):jal P w K mg base CX0 1 "flat_axis" ["plane"] [] jmg:=by
  refine F.ok jd2 (fun vs H Q E h=>?_) (fun f cdv A outer s H vs Q E hr h=>?_)
  . obtain⟨r,a,b,c,d,rfl,_⟩:=h
    rfl
  obtain⟨r,a,b,c,d,rfl,h1,nz,q⟩:=h;have S:=jd2;refine⟨_,(jae (jbE PassesOwn.never rfl (jaU rfl T.m_range (jaa jab jac jam)) (jan (i:=1) S.nd rfl (Or.inl rfl))
    (jai (jaO (jar jem (jaj jao (pv 0) (pv 1)) jab (jaz _))
    (jai (jap (pv 1)))
    jaA)))
    (jai (jap jbr))),?_⟩
  have k1:SqT K H r [.int a,.int b,.int c,.int d]:=SqT.of h1;walk_at "rf";walk_at "gf";refine jbR (lo:=0) (n:=3) (fun i σ H2=>H2=H/\∃o1:Option V,σ=[some (.ref r),o1]/\(1<=i->a=0)/\(2<=i->b=0)/\(3<=i->c=0)) ⟨rfl,none,rfl,by simp,by simp,by simp⟩ ?_ ?_
  . rintro i σ H2 hi ⟨rfl,o1,rfl,e0,e1,e2⟩
    match i,hi with
    | 0, _ =>
      walk_at "rf";walk_at "gf";refine jcA (fun cc=>⟨fun _=>cc,fun h=>absurd h (by decide),fun h=>absurd h (by decide)⟩) fun cc=>?_;exact q _ (.inl ⟨rfl,cc⟩)
    | 1, _ =>
      have d0:=e0 (by decide);walk_at "rf";walk_at "gf";refine jcA (fun cc=>⟨fun _=>d0,fun _=>cc,fun h=>absurd h (by decide)⟩) fun cc=>?_;exact q _ (.inr (.inl ⟨rfl,d0,cc⟩))
    | 2, _ =>
      have d0:=e0 (by decide);have d1:=e1 (by decide);walk_at "rf";walk_at "gf";refine jcA (fun cc=>⟨fun _=>d0,fun _=>d1,fun _=>cc⟩) fun cc=>?_;exact q _ (.inr (.inr ⟨rfl,d0,d1,cc⟩))
  . rintro σ H2 ⟨rfl,o1,rfl,e0,e1,e2⟩
    exact absurd ⟨e0 (by decide),e1 (by decide),e2 (by decide)⟩ nz
theorem jnp (T:Tx K mg t1 t2) (F:At K mg "side_of_edge" jb9 ["edge","spot","axis"] []) (dQ:jal P w K mg base CX0 1 "sign_of" ["number"] [] jjq) (dg:jal P w K mg base CX0 3 "minor_of" ["one","other","third","place"] [] jfA):jal P w K mg base CX0 4 "side_of_edge" ["edge","spot","axis"] [] jmh:=by
 refine F.ok jcO (fun vs H Q E h=>?_) (fun f cdv A outer s H vs Q E hr h=>?_)
 ·obtain⟨g,r,e,t,k,p,o,u,rfl,_⟩:=h;rfl
 obtain⟨g,r,e,t,k,p,o,u,rfl,hg,h1,h2,h3,k0,k3,q⟩:=h;have S:=jcO;refine⟨_,(jai (jap (jah dQ hr.m rfl jat (jaa (jah dg hr.m rfl jat (jaa (jaj jao (pv 0) jab) (jaa (jaj jao (pv 0) jab) (jaa (pv 1) (jaa (pv 2) jac jag) jag) jau) jau)) jac jaN)))),?_⟩;have kg:SqT K H g [.ref r,.ref e]:=SqT.of hg;walk_at "rf";walk_at "gf";refine⟨r,e,t,k,p,o,u,rfl,h1,h2,h3,k0,k3,fun H1 s1=>?_⟩;exact⟨_,rfl,q H1 s1⟩
def fM1 (H:Hp) (l:Addr) (ps:List Pt):L2.St->Hp->Prop:=fun σ H'=>∃o2:Option V,σ=[some (.ref l),some (.int (fF ps:Nat)),o2,none]/\H'=H
def fM2 (H:Hp) (l:Addr) (ps:List Pt) (rs:List Addr):L2.St->Hp->Prop:=fun σ H'=>∃(g:Addr) (o1 o2:Option V),σ=[some (.ref l),o1,o2,some (.ref g)]/\H' g=some (.lst ((rot (fF ps) rs).map V.ref))/\Same H H'
def fM3 (H:Hp) (ps:List Pt) (rs:List Addr):L2.St->Hp->Prop:=fun σ H'=>∃(g:Addr) (o0 o1 o2:Option V),σ=[o0,o1,o2,some (.ref g)]/\H' g=some (.lst ((frm ps rs).map V.ref))/\Same H H'
theorem jfC {α:Type} {l:List α} (h:f<=l.length):(rot f l).length=l.length:=by
 unfold rot;rw[xad,xaC,xau];omega
theorem jjx (T:Tx K mg t1 t2) (F:At K mg "formed" jfz ["corners"] []) (dW:jal P w K mg base CX0 1 "stands_first" ["one","other"] [] jjr):jal P w K mg base CX0 2 "formed" ["corners"] [] jfB:=by
  refine F.ok jgk (fun vs H Q E h=>?_) (fun f cdv A outer s H vs Q E hr h=>?_)
  . obtain⟨l,rs,ps,rfl,_⟩:=h
    rfl
  obtain⟨l,rs,ps,rfl,hc,n3,n8,q⟩:=h;have S:=jgk;refine⟨_,(jae (jas (i:=1) S.nd rfl (Or.inl rfl) jab)
    (ja3 (fM1 H l ps) (jbE PassesOwn.never rfl (jel rfl T.m_range (jaa jab (jaa (jav jaJ rfl T.m_len PySem.boot_len (jaa (pv 0) jac jag)) jac jaN) jam)) (jan (i:=2) S.nd rfl (Or.inl rfl))
    (jai (jaO (jbB (jah dW hr.m rfl jat (jaa (jaj ix_list (pv 0) (pv 2)) (jaa (jaj ix_list (pv 0) (pv 1)) jac jau) jau)))
    (jai (jas (i:=1) S.nd rfl (Or.inl rfl) (pv 2)))
    jaA)))
    (ja3 (fM2 H l ps rs) (jas (i:=3) S.nd rfl (Or.inl rfl) (jaq jc7 (jaK ja6 rfl T.m_list boot_list (jaa (jb2 sl_list (pv 0) (jck (pv 1)) jdi) jac jau)) (jaK ja6 rfl T.m_list boot_list (jaa (jb2 sl_list (pv 0) jdi (jck (pv 1))) jac jau))))
    (ja3 (fM3 H ps rs) (jaO (jbB (jah dW hr.m rfl jat (jaa (jaj ix_list (pv 3) (jd9 jcv jab)) (jaa (jaj ix_list (pv 3) jab) jac jau) jau)))
    (jai (jas (i:=3) S.nd rfl (Or.inl rfl) (jaq jc7 (jb2 sl_list (pv 3) jdi (jck jab)) (jib rfl rfl T.m_list rfl T.m_reversed (jb2 sl_list (pv 3) (jck jab) jdi)))))
    jaA)
    (jai (jap (jaK jcm rfl T.m_tuple boot_tuple (jaa (pv 3) jac jag)))))))),?_⟩
  have ln:=hc.2.len;have lm:(rs.map V.ref).length=ps.length:=by rw[xaa,ln]
  have kl:SqL K H l (rs.map V.ref):=SqL.of hc.1;walk_at "rf";refine⟨⟨_,.inl kl,by decide,by decide,by omega,by omega,?_⟩,?_⟩
  . refine jbR (lo:=1) (n:=_) (fun i σ H2=>H2=H /\ ∃o2:Option V,σ=[some (.ref l),some (.int (jhw ps i:Nat)),o2,none]) ⟨rfl,none,rfl⟩ ?_ ?_
    . rintro i σ H2 hi ⟨rfl,o2,rfl⟩
      have hi2:i+1<ps.length:=by omega
      have al:=jeA ps i;obtain⟨g1,g2⟩:=hc.2.get hi2;obtain⟨g3,g4⟩:=hc.2.get (i:=jhw ps i) (by omega);have e1:atI (rs.map V.ref) (1+(i:Int))=some (.ref (ad rs (i+1))):=by
        have z:(1+(i:Int))=((i+1:Nat):Int):=by omega
        rw[z];exact jaI g1
      walk_at "rf";refine ixL kl e1 ?_;refine ixL kl (jaI g3) ?_;refine⟨_,_,_,_,rfl,g2,g4,?_⟩;have ea:jhw ps (i+1)=if sfp (pt ps (i+1)) (pt ps (jhw ps i))=true then i+1 else jhw ps i:=rfl;walk_at "rf";cases es:sfp (pt ps (i+1)) (pt ps (jhw ps i)) with
      | true =>
        rw[es,if_pos rfl] at ea;rw[ea,if_pos rfl];exact⟨by omega,_,rfl⟩
      | false =>
        rw[es,if_neg (by decide)] at ea;rw[ea,if_neg (by decide)];exact⟨rfl,_,rfl⟩
    . rintro σ H2 ⟨rfl,o2,rfl⟩
      have e:(((List.map V.ref rs).length:Int)-1).toNat=ps.length-1:=by omega
      rw[e];exact⟨_,rfl,rfl⟩
  rintro σ1 H1 ⟨o2,rfl,rfl⟩;have fl:fF ps<ps.length:=by have:=jeA ps (ps.length-1);unfold fF;omega
  walk_at "rf";refine⟨⟨l,_,rfl,kl,fun a1 h1=>?_⟩,?_⟩
  . rw[jhv]
    refine jeP h1 fun J1 s1 e1=>?_;refine⟨a1,rfl,_,.inl (SqL.of e1),fun a2 h2=>?_⟩;refine jeP h2 fun J2 s2 e2=>?_;refine⟨l,_,rfl,(s1.trans s2).seq kl,fun a3 h3=>?_⟩;rw[jef];refine jeP h3 fun J3 s3 e3=>?_;refine⟨a3,rfl,_,.inl (SqL.of e3),fun a4 h4=>?_⟩;refine jeP h4 fun J4 s4 e4=>?_;refine⟨a2,a4,_,_,rfl,rfl,s4 _ _ (s3 _ _ e2),e4,?_,fun a5 h5=>⟨a5,_,_,rfl,?_,s1.trans (s2.trans (s3.trans (s4.trans (Same.new h5 _))))⟩⟩
    . rw[xaC,xau]
      exact xaE (show _<=1000 by omega) (by decide)
    . unfold rot
      rw[xaj,xb6,xb7];exact jaf
  rintro σ2 H2 ⟨g,o1,o2,rfl,hg,s2⟩;have hr2:=(hc.2.keep s2.t).rot (fF ps);have rl:(rot (fF ps) ps).length=ps.length:=jfC (by omega);have rl2:((rot (fF ps) rs).map V.ref).length=ps.length:=by rw[xaa,jfC (by omega),ln]
  have kg:SqL K H2 g ((rot (fF ps) rs).map V.ref):=SqL.of hg;obtain⟨b1,b2⟩:=hr2.get (i:=ps.length-1) (by omega);obtain⟨b3,b4⟩:=hr2.get (i:=1) (by omega);have ef:∀{α:Type} (x:List α),frm ps x=turn (fB ps) (rot (fF ps) x):=fun _=>rfl;have eb:fB ps=sfp (pt (rot (fF ps) ps) (ps.length-1)) (pt (rot (fF ps) ps) 1):=rfl;walk_at "rf";refine⟨ixL kg (jc4 (n:=ps.length-1) (by omega) b1) (ixL kg (jaI (j:=1) b3) ?_),?_⟩
  . refine⟨_,_,_,_,rfl,b2,b4,?_⟩
    rw[<- eb];have ef:=ef rs;cases es:fB ps with
    | false =>
      rw[es] at ef;walk_at "rf";exact⟨g,_,_,_,rfl,by rw[ef];exact hg,s2⟩
    | true =>
      rw[es] at ef;have ef2:frm ps rs=(rot (fF ps) rs).take 1++((rot (fF ps) rs).drop 1).reverse:=ef;walk_at "rf";refine⟨g,_,rfl,kg,fun a1 h1=>?_⟩;have c1:jeO ((rot (fF ps) rs).map V.ref) none (some 1)=((rot (fF ps) rs).map V.ref).take 1:=jef (f:=1);rw[c1];refine jeP h1 fun J1 s3 e1=>?_;refine⟨g,_,rfl,s3.seq kg,fun a2 h2=>?_⟩;have c2:jeO ((rot (fF ps) rs).map V.ref) (some 1) none=((rot (fF ps) rs).map V.ref).drop 1:=jhv (f:=1);rw[c2];refine jeP h2 fun J2 s4 e2=>?_;refine⟨a2,rfl,_,SqL.of e2,fun a3 h3=>?_⟩;refine jeP h3 fun J3 s5 e3=>?_;refine⟨a1,a3,_,_,rfl,rfl,s5 _ _ (s4 _ _ e1),e3,?_,fun a4 h4=>⟨a4,_,_,_,rfl,?_,s2.trans (s3.trans (s4.trans (s5.trans (Same.new h4 _))))⟩⟩
      . rw[xaQ,xaC,xau]
        exact xaE (show _<=1000 by omega) (by decide)
      . rw[ef2,xaj,xb7,List.map_reverse,xb6]
        exact jaf
  rintro σ3 H3 ⟨g,o0,o1,o2,rfl,hg,s3⟩;walk_at "rf";exact⟨_,SqL.of hg,fun t ht=>q t _ (s3.trans (Same.new ht _)) jaf⟩
theorem jls {rs:List Addr} (h:Sps H rs ps) (hi:i<ps.length):atI (rs.map V.ref) ((i:Int)-1)=some (.ref (ad rs ((i+(ps.length-1)) % ps.length))):=by
  have lm:(rs.map V.ref).length=ps.length:=by rw[xaa,h.len]
  cases i with
  | zero =>
    have e:(0+(ps.length-1)) % ps.length=ps.length-1:=by rw[xbC];exact xah (by omega)
    rw[e];have z:((0:Nat):Int)-1=-1:=rfl;rw[z];exact jc4 (n:=ps.length-1) (by omega) (h.get (i:=ps.length-1) (by omega)).1
  | succ i =>
    have e:(i+1+(ps.length-1)) % ps.length=i:=by
      have z:i+1+(ps.length-1)=i+ps.length:=by omega
      rw[z,xa7];exact xah (by omega)
    rw[e];have z:((i+1:Nat):Int)-1=(i:Int):=by omega
    rw[z];exact jaI (h.get (i:=i) (by omega)).1
theorem jpb (T:Tx K mg t1 t2) (F:At K mg "is_convex" jdp ["corners","axis"] []) (dU:jal P w K mg base CX0 4 "side_of_edge" ["edge","spot","axis"] [] jmh):jal P w K mg base CX0 5 "is_convex" ["corners","axis"] [] jo8:=by
 refine F.ok jd3 (fun vs H Q E h=>?_) (fun f cdv A outer s H vs Q E hr h=>?_)
 ·obtain⟨l,k,rs,ps,rfl,_⟩:=h;rfl
 obtain⟨l,k,rs,ps,rfl,hc,n3,n8,k0,k2,rnd,q⟩:=h;have S:=jd3;refine⟨_,(jae (jas (i:=2) S.nd rfl (Or.inl rfl) (jah dU hr.m rfl jat (jaa (jaQ (jaa (jaj ix_list (pv 0) jab) (jaa (jaj ix_list (pv 0) jab) jac jau) jau)) (jaa (jaj ix_list (pv 0) jab) (jaa (pv 1) jac jag) jau) jaM)))
  (jae (jas (i:=3) S.nd rfl (Or.inl rfl) (jav jaJ rfl T.m_len PySem.boot_len (jaa (pv 0) jac jag)))
  (jae (jbE PassesOwn.never rfl (jaU rfl T.m_range (jaa (pv 3) jac jag)) (jan (i:=4) S.nd rfl (Or.inl rfl))
  (jae (jas (i:=5) S.nd rfl (Or.inl rfl) (jaQ (jaa (jaj ix_list (pv 0) (jaq ja5 (pv 4) jab)) (jaa (jaj ix_list (pv 0) (pv 4)) jac jau) jau)))
  (jai (jbE PassesOwn.never rfl (jel rfl T.m_range (jaa jab (jaa (jaq ja5 (pv 3) jab) jac jbf) jam)) (jan (i:=6) S.nd rfl (Or.inl rfl))
  (jai (jaO (jar jem (jah dU hr.m rfl jat (jaa (pv 5) (jaa (jaj ix_list (pv 0) (jaq jb1 (jaq jbq (pv 4) (pv 6)) (pv 3))) (jaa (pv 1) jac jag) jau) jag)) (pv 2) (jaz _))
  (jai (jap jb6))
  jaA))))))
  (jai (jap jb6))))),?_⟩
 have ln:=hc.2.len;have lm:(rs.map V.ref).length=ps.length:=by rw[xaa,ln]
 have kl:SqL K H l (rs.map V.ref):=SqL.of hc.1;obtain⟨a1,a2⟩:=hc.2.get (i:=0) (by omega (config:={}));obtain⟨a3,a4⟩:=hc.2.get (i:=1) (by omega (config:={}));obtain⟨a5,a6⟩:=hc.2.get (i:=2) (by omega (config:={}));walk_at "rf";refine ixL kl (jaI (j:=0) a1) (ixL kl (jaI (j:=1) a3) ⟨by decide,fun g hg=>?_⟩);refine jeP hg fun H1 s1 e1=>?_;refine ixL (s1.seq kl) (jaI (j:=2) a5) ?_;refine⟨g,_,_,_,k,_,_,_,rfl,e1,a2.keep s1,a4.keep s1,a6.keep s1,k0,by omega (config:={}),fun H2 s2=>?_⟩;have s12:=s1.trans s2;have kl2:=s12.seq kl;walk_at "rf";refine⟨_,.inl kl2,?_⟩;rw[lm];refine⟨by omega (config:={}),by omega (config:={}),?_⟩;refine jbR (lo:=0) (n:=_) (fun i σ H3=>Same H H3/\∃o4 o5 o6:Option V,σ=[some (.ref l),some (.int k),some (.int (sgn (jaB k (pt ps 0) (pt ps 1) (pt ps 2)))),some (.int (ps.length:Nat)),o4,o5,o6]) ⟨s12,none,none,none,rfl⟩ ?_ ?_
 ·rintro i σ H3 hi ⟨s3,o4,o5,o6,rfl⟩;have hi2:i<ps.length:=by simpa using hi
  have kl3:=s3.seq kl;have sp3:=hc.2.keep s3.t;obtain⟨b1,b2⟩:=sp3.get hi2;have hm:(i+(ps.length-1)) % ps.length<ps.length:=xaL _ (by omega);obtain⟨b3,b4⟩:=sp3.get hm;have ep:=jls sp3 hi2;have z0:(0:Int)+(i:Int)=(i:Int):=xcu _;rw[z0];walk_at "rf";refine ixL kl3 ep (ixL kl3 (jaI b1) ⟨by decide,fun g3 hg3=>?_⟩);refine jeP hg3 fun H4 s4 e4=>?_;refine⟨by decide,by decide,by omega,by omega,?_⟩;refine jbR (lo:=1) (n:=_) (fun j σ H5=>Same H4 H5/\∃o6:Option V,σ=[some (.ref l),some (.int k),some (.int (sgn (jaB k (pt ps 0) (pt ps 1) (pt ps 2)))),some (.int (ps.length:Nat)),some (.int (i:Int)),some (.ref g3),o6]) ⟨Same.refl _,_,rfl⟩ ?_ ?_
  ·rintro j σ H5 hj ⟨s5,o6,rfl⟩;have hj2:j+1<ps.length-1:=by omega
   have s35:=s4.trans s5;have s05:=s3.trans s35;have sp5:=hc.2.keep s05.t;have hm2:(i+(j+1)) % ps.length<ps.length:=xaL _ (by omega);obtain⟨c1,c2⟩:=sp5.get hm2;have ez:((i:Int)+(1+(j:Int))) % ((ps.length:Nat):Int)=(((i+(j+1)) % ps.length:Nat):Int):=by
    rw[Int.natCast_emod]
    congr 1
    omega
   walk_at "rf";rw[ez];refine⟨by omega,ixL (s05.seq kl) (jaI c1) ?_⟩;refine⟨g3,_,_,_,k,_,_,_,rfl,s5 _ _ e4,b4.keep s35,b2.keep s35,c2,k0,by omega,fun H6 s6=>?_⟩;rw[rnd i (j+1) hi2 (by omega) hj2];walk_at "rf";exact⟨s5.trans s6,_,rfl⟩
  ·rintro σ H5 ⟨s5,o6,rfl⟩;exact⟨s3.trans (s4.trans s5),_,_,_,rfl⟩
 ·rintro σ H3 ⟨s3,o4,o5,o6,rfl⟩;exact q _ s3
theorem jjy {b:Int} (h:¬(a=0/\b=0/\c=0)) (hp:plb a b c=false):plb (-a) (-b) (-c)=true:=by
 by_cases ha:a=0
 ·by_cases hb:b=0
  ·have hc:c≠0:=fun z=>h ⟨ha,hb,z⟩;simp [plb,ha,hb,hc] at hp |-
   omega
  ·simp [plb,ha,hb] at hp |-
   omega
 ·simp [plb,ha] at hp |-
  omega
theorem jmj (ns:List Int):gl (ns.map fun n=>-n)=gl ns:=by
 have d1:gl (ns.map fun n=>-n) ∣ gl ns:=je2 fun n hn=>Int.dvd_neg.mp (jaT (xax.mpr ⟨n,hn,rfl⟩));have d2:gl ns ∣ gl (ns.map fun n=>-n):=je2 fun n hn=>by
  obtain⟨m,hm,rfl⟩:=xax.mp hn;exact Int.dvd_neg.mpr (jaT hm)
 exact Int.dvd_antisymm (jbh _) (jbh _) d1 d2
theorem jjz {b:Int} (h:¬(a=0/\b=0/\c=0)) (sa:Small a) (sb:Small b) (sc:Small c) (sd:Small d):∃x y z w:Int,pln [a,b,c,d]=[x,y,z,w]/\Small x/\Small y/\Small z/\Small w/\gl [x,y,z,w]=1/\plb x y z=true/\∀p:Pt,hgt a b c d p=0->hgt x y z w p=0:=by
  have gp:=gl4 (d:=d) h;have g1:gl (low [a,b,c,d])=1:=jo5 (ns:=[a,b,c,d]) (by omega);have nz:¬(a / gl [a,b,c,d]=0/\b / gl [a,b,c,d]=0/\c / gl [a,b,c,d]=0):=fun z=>by
    have g:∀{x:Int},x∈[a,b,c,d]->x / gl [a,b,c,d]=0->x=0:=fun hx z=>xal fun q=>jeu (jaT hx) q z;exact h ⟨g (by simp) z.1,g (by simp) z.2.1,g (by simp) z.2.2⟩
  have el:low [a,b,c,d]=[a / gl [a,b,c,d],b / gl [a,b,c,d],c / gl [a,b,c,d],d / gl [a,b,c,d]]:=rfl;have ea:=xbe (jaT (ns:=[a,b,c,d]) (n:=a) (by simp));have eb:=xbe (jaT (ns:=[a,b,c,d]) (n:=b) (by simp));have ec:=xbe (jaT (ns:=[a,b,c,d]) (n:=c) (by simp));have ed:=xbe (jaT (ns:=[a,b,c,d]) (n:=d) (by simp));have s1:=sa.div (g:=gl [a,b,c,d]);have s2:=sb.div (g:=gl [a,b,c,d]);have s3:=sc.div (g:=gl [a,b,c,d]);have s4:=sd.div (g:=gl [a,b,c,d]);unfold pln;rw[el] at g1 |-
  generalize gl [a,b,c,d]=g at gp g1 nz ea eb ec ed s1 s2 s3 s4 |-
  generalize a / g=x at g1 nz ea s1 |-
  generalize b / g=y at g1 nz eb s2 |-
  generalize c / g=z at g1 nz ec s3 |-
  generalize d / g=w at g1 ed s4 |-
  have hz:∀p:Pt,hgt a b c d p=0->hgt x y z w p=0:=fun p hp=>by
    have e:hgt x y z w p*g=0:=by
      rw[<- hp,<- ea,<- eb,<- ec,<- ed];unfold hgt;grind
    rcases xaI.mp e with q | q
    . exact q
    . omega
  show ∃x' y' z' w':Int,(if plb x y z=true then [x,y,z,w] else [-x,-y,-z,-w])=[x',y',z',w']/\_;cases eb:plb x y z with
  | true=>exact⟨x,y,z,w,if_pos rfl,s1,s2,s3,s4,g1,eb,hz⟩
  | false =>
    refine⟨-x,-y,-z,-w,if_neg (by decide),s1.neg,s2.neg,s3.neg,s4.neg,?_,jjy nz eb,fun p hp=>?_⟩
    . rw[<- g1]
      exact jmj [x,y,z,w]
    . have e:=hz p hp
      have e2:hgt (-x) (-y) (-z) (-w) p=-hgt x y z w p:=by
        unfold hgt;grind
      rw[e2,e];rfl
theorem jpc {b z w:Int} (h:pln [a,b,c,d]=[x,y,z,w]):(x≠0->a≠0)/\(y≠0->b≠0)/\(z≠0->c≠0):=by
 have el:low [a,b,c,d]=[a / gl [a,b,c,d],b / gl [a,b,c,d],c / gl [a,b,c,d],d / gl [a,b,c,d]]:=rfl;unfold pln at h;rw[el] at h;generalize gl [a,b,c,d]=g at h;have h':(if plb (a / g) (b / g) (c / g)=true then [a / g,b / g,c / g,d / g] else [-(a / g),-(b / g),-(c / g),-(d / g)])=[x,y,z,w]:=h;have z0:∀{i:Int},i=0->i / g=0:=fun e=>by rw[e];exact Int.zero_ediv g
 split at h'
 ·simp only[List.cons.injEq,and_true] at h';obtain⟨e1,e2,e3,_⟩:=h';exact⟨fun q e=>q (by rw[<- e1];exact z0 e),fun q e=>q (by rw[<- e2];exact z0 e),fun q e=>q (by rw[<- e3];exact z0 e)⟩
 ·simp only[List.cons.injEq,and_true] at h';obtain⟨e1,e2,e3,_⟩:=h';exact⟨fun q e=>q (by rw[<- e1,z0 e];rfl),fun q e=>q (by rw[<- e2,z0 e];rfl),fun q e=>q (by rw[<- e3,z0 e];rfl)⟩
theorem jpd {z:Int} (h:plb x y z=true):¬(x=0/\y=0/\z=0):=fun e=>by
 simp [plb,e.1,e.2.1,e.2.2] at h
theorem sgn0:sgn 0=0:=rfl
theorem jpe {o u:Pt} (h:¬jbW p o u):inl p o u=false:=decide_eq_false h
theorem jlt (T:Tx K mg t1 t2) (F:At K mg "made_board" jcI ["corners"] []) (Du:jal P w K mg base CX0 4 "in_line" ["one","other","third"] [] jmf) (dG:jal P w K mg base CX0 5 "plane_through" ["one","other","third"] [] jez) (dq:jal P w K mg base CX0 2 "side_of" ["plane","spot"] [] jhu) (Dm:jal P w K mg base CX0 1 "flat_axis" ["plane"] [] jmg) (Dn:jal P w K mg base CX0 5 "is_convex" ["corners","axis"] [] jo8) (dF:jal P w K mg base CX0 2 "formed" ["corners"] [] jfB):jal P w K mg base CX0 6 "made_board" ["corners"] [] jjt:=by
 refine F.ok jdy (fun vs H Q E h=>?_) (fun f cdv A outer s H vs Q E hr h=>?_)
 ·obtain⟨l,rs,ps,rfl,_⟩:=h;rfl
 obtain⟨l,rs,ps,rfl,hc,B,q⟩:=h;have S:=jdy;refine⟨_,(jae (jaO (PW.pt (jds (jar jfZ (jav jaJ rfl T.m_len PySem.boot_len (jaa (pv 0) jac jag)) jab (jaz _)) (jc6 (jar jgF (jav jaJ rfl T.m_len PySem.boot_len (jaa (pv 0) jac jag)) (jiC rfl T.m_MOST_CORNERS T.r_MOST_CORNERS) (jaz _)))))
  jbQ
  jaA)
  (jae (jaO (jbB (jah Du hr.m rfl jat (jaa (jaj ix_list (pv 0) jab) (jaa (jaj ix_list (pv 0) jab) (jaa (jaj ix_list (pv 0) jab) jac jau) jau) jau)))
  jbQ
  jaA)
  (jae (jas (i:=1) S.nd rfl (Or.inl rfl) (jah dG hr.m rfl jat (jaa (jaj ix_list (pv 0) jab) (jaa (jaj ix_list (pv 0) jab) (jaa (jaj ix_list (pv 0) jab) jac jau) jau) jau)))
  (jae (jbE PassesOwn.never rfl (jbo (pv 0)) (jan (i:=2) S.nd rfl (Or.inl rfl))
  (jai (jaO (jar jem (jah dq hr.m rfl jat (jaa (pv 1) (jaa (pv 2) jac jag) jag)) jab (jaz _))
  jbQ
  jaA)))
  (jae (jaO (jb0 (jbB (jah Dn hr.m rfl jat (jaa (pv 0) (jaa (jah Dm hr.m rfl jat (jaa (pv 1) jac jag)) jac jaN) jag))))
  jbQ
  jaA)
  (jai (jap (jah dF hr.m rfl jat (jaa (pv 0) jac jag))))))))),?_⟩
 have n3:=B.n3;have n8:=B.n8;have ln:=hc.2.len;have lm:(rs.map V.ref).length=ps.length:=by rw[xaa,ln]
 have kl:SqL K H l (rs.map V.ref):=SqL.of hc.1;obtain⟨a1,a2⟩:=hc.2.get (i:=0) (by omega);obtain⟨a3,a4⟩:=hc.2.get (i:=1) (by omega);obtain⟨a5,a6⟩:=hc.2.get (i:=2) (by omega);obtain⟨m0,m1,m2,m3⟩:=jhy a2.2 a4.2 a6.2;obtain⟨x,y,z,v,ep,sx,sy,sz,sv,g1',pb,hz⟩:=jjz (a:=jaB 0 (pt ps 0) (pt ps 1) (pt ps 2)) (b:=-jaB 1 (pt ps 0) (pt ps 1) (pt ps 2)) (c:=jaB 2 (pt ps 0) (pt ps 1) (pt ps 2)) (d:=jaB 3 (pt ps 0) (pt ps 1) (pt ps 2)) (fun z=>B.na ⟨z.1,by omega,z.2.2⟩) m0 m1.neg m2 m3;obtain⟨nx,ny,nz⟩:=jpc ep;have er:rgh (pt ps 0) (pt ps 1) (pt ps 2)=[jaB 0 (pt ps 0) (pt ps 1) (pt ps 2),-jaB 1 (pt ps 0) (pt ps 1) (pt ps 2),jaB 2 (pt ps 0) (pt ps 1) (pt ps 2),jaB 3 (pt ps 0) (pt ps 1) (pt ps 2)]:=rfl;walk_at "rf";refine⟨_,.inl kl,?_⟩;rw[lm,if_neg (by omega)];refine⟨_,.inl kl,?_⟩;rw[lm,if_neg (by omega)];refine ixL kl (jaI (j:=0) a1) (ixL kl (jaI (j:=1) a3) (ixL kl (jaI (j:=2) a5) ?_));refine⟨_,_,_,_,_,_,rfl,a2,a4,a6,fun H1 s1=>?_⟩;rw[jpe B.na];have kl1:=s1.seq kl;walk_at "rf";refine ixL kl1 (jaI (j:=0) a1) (ixL kl1 (jaI (j:=1) a3) (ixL kl1 (jaI (j:=2) a5) ?_));refine⟨_,_,_,_,_,_,rfl,a2.keep s1,a4.keep s1,a6.keep s1,B.na,fun g H2 s2 e2=>?_⟩;rw[er,ep] at e2;have s12:=s1.trans s2;have kl2:=s12.seq kl;try walk_at "rf"
 refine⟨⟨_,kl2⟩,?_⟩;refine jbL (K:=K) (a:=l) (xs:=rs.map V.ref) (fun i σ H3=>H3=H2/\∃o2:Option V,σ=[some (.ref l),some (.ref g),o2]) ⟨rfl,none,rfl⟩ (fun i σ H3 _ ⟨h,_⟩=>by rw[h];exact kl2) ?_ ?_
 ·rintro i r σ H3 hi ⟨rfl,o2,rfl⟩;have hlt:i<ps.length:=by
   have:=(xag.mp hi).1;omega
  obtain⟨b1,b2⟩:=(hc.2.keep s12.t).get hlt;rw[b1] at hi;cases hi;walk_at "rf";refine⟨g,_,x,y,z,v,_,rfl,e2,sx,sy,sz,sv,b2,?_⟩;rw[hz _ (B.flat i hlt)];walk_at "rf";rw[if_pos sgn0];exact⟨_,rfl⟩
 ·rintro σ H3 ⟨rfl,o2,rfl⟩;walk_at "rf";refine⟨g,x,y,z,v,rfl,e2,jpd pb,fun k hk=>?_⟩;have kk:0<=k/\k<=2/\jaB k (pt ps 0) (pt ps 1) (pt ps 2)≠0:=by
   rcases hk with ⟨rfl,h⟩ | ⟨rfl,_,h⟩ | ⟨rfl,_,_,h⟩
   ·exact⟨by decide,by decide,nx h⟩
   ·exact⟨by decide,by decide,fun e=>ny h (by omega)⟩
   ·exact⟨by decide,by decide,nz h⟩
  refine⟨l,k,rs,ps,rfl,hc.keep s12,n3,n8,kk.1,kk.2.1,B.rnd k kk.1 kk.2.1 kk.2.2,fun H4 s4=>?_⟩;walk_at "rf";refine⟨l,rs,ps,rfl,hc.keep (s12.trans s4),n3,xaE n8 (by decide),fun t H5 s5 e5=>?_⟩;exact q t H5 (s12.trans (s4.trans s5)) e5
def jgm:Sp:=fun vs H Q _=>∃(t:Addr) (rs:List Addr) (ps:List Pt),vs=[.ref t]/\H t=some (.tup (rs.map V.ref))/\Sps H rs ps/\3<=ps.length/\¬jbW (pt ps 0) (pt ps 1) (pt ps 2)/\∀(g:Addr) (H':Hp),Same H H'->H' g=some (.tup ((pln (rgh (pt ps 0) (pt ps 1) (pt ps 2))).map V.int))->Q (.ref g) H'
theorem jis (T:Tx K mg t1 t2) (F:At K mg "plane_of" jdQ ["board"] []) (dG:jal P w K mg base CX0 5 "plane_through" ["one","other","third"] [] jez):jal P w K mg base CX0 6 "plane_of" ["board"] [] jgm:=by
 refine F.ok jeE (fun vs H Q E h=>?_) (fun f cdv A outer s H vs Q E hr h=>?_)
 ·obtain⟨t,rs,ps,rfl,_⟩:=h;rfl
 obtain⟨t,rs,ps,rfl,ht,hc,n3,na,q⟩:=h;have S:=jeE;refine⟨_,(jai (jap (jah dG hr.m rfl jat (jaa (jaj jao (pv 0) jab) (jaa (jaj jao (pv 0) jab) (jaa (jaj jao (pv 0) jab) jac jau) jau) jau)))),?_⟩;have kt:SqT K H t (rs.map V.ref):=SqT.of ht;obtain⟨a1,a2⟩:=hc.get (i:=0) (by omega);obtain⟨a3,a4⟩:=hc.get (i:=1) (by omega);obtain⟨a5,a6⟩:=hc.get (i:=2) (by omega);walk_at "rf";refine ixT kt (jaI (j:=0) a1) (ixT kt (jaI (j:=1) a3) (ixT kt (jaI (j:=2) a5) ?_));exact⟨_,_,_,_,_,_,rfl,a2,a4,a6,na,q⟩
theorem jmk {n:Int} (h:0<=n):0<=sgn n:=by
 unfold sgn;split
 ·decide
 ·split<;>omega
theorem jpf {n:Int} (h:n<=0):sgn n<=0:=by
 unfold sgn;split
 ·omega
 ·split<;>omega
theorem jpg {n:Int} (h:0<n):sgn n=1:=by
 unfold sgn;rw[if_pos h]
theorem jlu {n:Int} (h:n<0):sgn n=-1:=by
 unfold sgn;rw[if_neg (by omega),if_pos h]
theorem jph {n:Int} (h:n=0):sgn n=0:=by rw[h];rfl
theorem jcz {X:Cx} {K:PySem.W.Frag} (h:X.K=K):IxR X (fun x y H Q=>jos K x y H Q\/jeZ K x y H Q):=h▸ix_lt
variable {Q:VK}
theorem jhz {i:Int} {v:V} (k:SqL K H r xs\/SqT K H r xs) (e:atI xs i=some v) (q:Q v H):jos K (.ref r) (.int i) H Q\/jeZ K (.ref r) (.int i) H Q:=by
 rcases k with k | k
 ·exact .inl (ixL k e q)
 ·exact .inr (ixT k e q)
local macro_rules | `(tactic| walk_at "gl") => `(tactic| repeat (first | ((with_reducible apply L2.ixT); assumption; rfl) | ((with_reducible apply My.jhz); assumption; rfl) | ((with_reducible apply L2.ixL); assumption; rfl) | ((with_reducible apply And.intro); (walk_at "sd")) | walk_at "rf"))
structure Tri where
 x:Int
 y:Int
 z:Int
def Tri.bd (n:Nat) (v:Tri):Prop:=Bd n v.x/\Bd n v.y/\Bd n v.z
structure Sht where
 s:Tri
 w:Int
 c:Tri
 d:Tri
def Sht.u (S:Sht):Tri:=⟨S.c.y*S.d.z-S.c.z*S.d.y,S.c.z*S.d.x-S.c.x*S.d.z,S.c.x*S.d.y-S.c.y*S.d.x⟩
def Tri.nz (v:Tri):Prop:=¬(v.x=0/\v.y=0/\v.z=0)
def Box (H:Hp) (L:Addr):Prop:=∃m:Int,H L=some (.lst [.int m])
theorem SameB.t (s:SameB L H H') (h:Box H L):SameT H H':=fun b xs hb=>by
 by_cases e:b=L
 ·obtain⟨m,hm⟩:=h;rw[e,hm] at hb;cases hb
 ·exact s b _ e hb
def Ix (ix:List Nat):Prop:=3<=ix.length/\ix.length<=8/\ix.Pairwise (· < ·)/\∀i∈ix,i<8
def rX (S:Sht) (v:Tri):Int:=S.s.x*v.z+S.w*(v.x*S.c.x+v.y*S.d.x)
def rY (S:Sht) (v:Tri):Int:=S.s.y*v.z+S.w*(v.x*S.c.y+v.y*S.d.y)
def rZ (S:Sht) (v:Tri):Int:=S.s.z*v.z+S.w*(v.x*S.c.z+v.y*S.d.z)
def rW (S:Sht) (v:Tri):Int:=S.w*v.z
def rG (S:Sht) (v:Tri):Int:=gl [rX S v,rY S v,rZ S v,rW S v]
def spt (S:Sht) (v:Tri):Pt:=⟨rX S v / rG S v,rY S v / rG S v,rZ S v / rG S v,rW S v / rG S v⟩
def Tri.pl (v:Tri):Prop:=1<=v.z
theorem Bd.div {i:Int} (h:Bd n i):Bd n (i / g):=xbb (xbV i g) h
local macro_rules | `(tactic| walk_at "gl") => `(tactic| repeat (first | ((with_reducible apply L2.ixT); assumption; rfl) | ((with_reducible apply My.jhz); assumption; rfl) | ((with_reducible apply L2.ixL); assumption; rfl) | ((with_reducible apply And.intro); (walk_at "sd")) | walk_at "rf"))
def pl4 (p:Pt):List Int:=[p.x,p.y,p.z,p.w]
theorem Sps.rds {rs:List Addr} (h:Sps H rs ps):RdsAll K H (rs.map V.ref) (jgB (ps.map pl4)):=by
 induction h with
 | nil=>exact .nil
 | cons h _ ih=>exact .cons (.tup (SqT.of h.1) (RdsAll.ints (pl4 _))) ih
def jnq (ps:List Pt):PyData:=.tuple (jgB (ps.map pl4))
theorem jjA {b:Addr} {rs:List Addr} (hb:H b=some (.tup (rs.map V.ref))) (h:Sps H rs ps):Rds K H (.ref b) (jnq ps):=.tup (SqT.of hb) h.rds
theorem jjB (ps:List Pt):PyData.canLay0 (jnq ps)=true/\PyData.depth (jnq ps)<=2/\PyData.eqv (jnq ps) (jnq ps)=true:=by
 obtain⟨h1,h2⟩:=jhb (ps.map pl4);refine⟨h1,?_,?_⟩
 ·show PyData.depth (.tuple (jgB (ps.map pl4)))<=2;simp only[PyData.depth];omega
 ·show PyData.eqvAll (jgB (ps.map pl4)) (jgB (ps.map pl4))=true;rw[jhc,decide_eq_true rfl]
theorem jjC {m h k:Int} (hm:0<m) (hk:0<k) (e:d*m=h*k):d<0↔h<0:=by
 constructor
 ·intro hd;apply xal;intro n;have a:=xa0 hd hm;have b:=xaJ (show 0<=h by omega) (show 0<=k by omega);omega
 ·intro hh;apply xal;intro n;have a:=xa0 hh hk;have b:=xaJ (show 0<=d by omega) (show 0<=m by omega);omega
theorem jjD {b k:Int} {m:Int} (hk:0<k) (hm:0<m) (e:a*k=m*b):sgn a=sgn b:=by
 have e':a*k=b*m:=by rw[e];exact xbf ..
 have n:=jjC hk hm e';have p:=jjC (d:=-a) (h:=-b) hk hm (by rw[xcb,xcb,e']);unfold sgn;by_cases c:0<a
 ·rw[if_pos c,if_pos (show b>0 by omega)]
 ·rw[if_neg c,if_neg (show ¬b>0 by omega)];by_cases d:a<0
  ·rw[if_pos d,if_pos (by omega)]
  ·rw[if_neg d,if_neg (by omega)]
theorem jeH:∀(ns:List Int) (d k m:Int),k ∣ m*d->(∀n∈ns,k ∣ m*n)->k ∣ m*G d ns
  | [],_,_,_,h,_=>h
  | n :: r, d, k, m, h, hn => by
    rw[jgg];refine jeH r _ k m ?_ fun n' h'=>hn n' (xas _ h');have h1:=xbI h (hn n xba);rw[Int.gcd_mul_left,Int.natCast_mul] at h1;exact xbB h1 (Int.mul_dvd_mul (Int.natAbs_dvd.mpr (xct m)) (xct _))
theorem jml (p o u:Pt):jaB 0 p o u=jbK p.y p.z p.w o.y o.z o.w u.y u.z u.w:=rfl
theorem jmm (p o u:Pt):jaB 1 p o u=jbK p.x p.z p.w o.x o.z o.w u.x u.z u.w:=rfl
theorem jmn (p o u:Pt):jaB 2 p o u=jbK p.x p.y p.w o.x o.y o.w u.x u.y u.w:=rfl
theorem jpi (p o u:Pt):jaB 3 p o u=jbK p.x p.y p.z o.x o.y o.z u.x u.y u.z:=rfl
def dt (a b c:Tri):Int:=jbK a.x a.y a.z b.x b.y b.z c.x c.y c.z
theorem jdF {g1 g2 g3 b z u v w:Int}:jbK (g1*a) (g1*b) (g1*c) (g2*x) (g2*y) (g2*z) (g3*u) (g3*v) (g3*w)=jbK a b c x y z u v w*(g1*g2*g3):=by
 unfold jbK;grind
theorem ja9 (Z:Sht) (v:Tri):rG Z v*(spt Z v).x=rX Z v/\rG Z v*(spt Z v).y=rY Z v/\rG Z v*(spt Z v).z=rZ Z v/\rG Z v*(spt Z v).w=rW Z v :=
 ⟨xa9 (jaT (by simp)),xa9 (jaT (by simp)),xa9 (jaT (by simp)),xa9 (jaT (by simp))⟩
def w3 (Z:Sht):Int:=Z.w*Z.w*Z.w
def ud (Z:Sht):Int:=Z.u.x*Z.s.x+Z.u.y*Z.s.y+Z.u.z*Z.s.z
theorem jjE (Z:Sht) (a b c:Tri):jaB 0 (spt Z a) (spt Z b) (spt Z c)*(rG Z a*rG Z b*rG Z c)=w3 Z*Z.u.x*dt a b c:=by
 obtain⟨a1,a2,a3,a4⟩:=ja9 Z a;obtain⟨b1,b2,b3,b4⟩:=ja9 Z b;obtain⟨c1,c2,c3,c4⟩:=ja9 Z c;rw[jml,<- jdF,a2,a3,a4,b2,b3,b4,c2,c3,c4];unfold w3 dt jbK rY rZ rW Sht.u;grind
theorem jjF (Z:Sht) (a b c:Tri):-jaB 1 (spt Z a) (spt Z b) (spt Z c)*(rG Z a*rG Z b*rG Z c)=w3 Z*Z.u.y*dt a b c:=by
 obtain⟨a1,a2,a3,a4⟩:=ja9 Z a;obtain⟨b1,b2,b3,b4⟩:=ja9 Z b;obtain⟨c1,c2,c3,c4⟩:=ja9 Z c;rw[xcb,jmm,<- jdF,a1,a3,a4,b1,b3,b4,c1,c3,c4];unfold w3 dt jbK rX rZ rW Sht.u;grind
theorem jjG (Z:Sht) (a b c:Tri):jaB 2 (spt Z a) (spt Z b) (spt Z c)*(rG Z a*rG Z b*rG Z c)=w3 Z*Z.u.z*dt a b c:=by
 obtain⟨a1,a2,a3,a4⟩:=ja9 Z a;obtain⟨b1,b2,b3,b4⟩:=ja9 Z b;obtain⟨c1,c2,c3,c4⟩:=ja9 Z c;rw[jmn,<- jdF,a1,a2,a4,b1,b2,b4,c1,c2,c4];unfold w3 dt jbK rX rY rW Sht.u;grind
theorem jpj (Z:Sht) (a b c:Tri):jaB 3 (spt Z a) (spt Z b) (spt Z c)*(rG Z a*rG Z b*rG Z c)=Z.w*Z.w*ud Z*dt a b c:=by
 obtain⟨a1,a2,a3,a4⟩:=ja9 Z a;obtain⟨b1,b2,b3,b4⟩:=ja9 Z b;obtain⟨c1,c2,c3,c4⟩:=ja9 Z c;rw[jpi,<- jdF,a1,a2,a3,b1,b2,b3,c1,c2,c3];unfold ud dt jbK rX rY rZ Sht.u;grind
variable {Z:Sht}
variable {v:Tri}
theorem jcV (hw:1<=Z.w) (hv:v.pl):0<rG Z v:=by
 have W1:0<rW Z v:=xaq (by omega) (show 0<v.z by have:1<=v.z:=hv;omega);exact jd0 (n:=rW Z v) (by simp) (by omega)
theorem jlv (Z:Sht) (v:Tri):Z.w*Z.u.x*rX Z v+Z.w*Z.u.y*rY Z v+Z.w*Z.u.z*rZ Z v-ud Z*rW Z v=0:=by
 unfold ud rX rY rZ rW Sht.u;grind
theorem jlw {a b c:Tri} (hw:1<=Z.w) (ha:a.pl) (hb:b.pl) (hc:c.pl) (hv:v.pl):hgt (jaB 0 (spt Z a) (spt Z b) (spt Z c)) (-jaB 1 (spt Z a) (spt Z b) (spt Z c)) (jaB 2 (spt Z a) (spt Z b) (spt Z c)) (jaB 3 (spt Z a) (spt Z b) (spt Z c)) (spt Z v)=0:=by
 have p1:=jcV hw ha;have p2:=jcV hw hb;have p3:=jcV hw hc;have p4:=jcV hw hv;have gp:rG Z a*rG Z b*rG Z c*rG Z v≠0:=Int.ne_of_gt (xaq (xaq (xaq p1 p2) p3) p4);refine (xaI.mp ?_).resolve_right gp;obtain⟨v1,v2,v3,v4⟩:=ja9 Z v;have e:hgt (jaB 0 (spt Z a) (spt Z b) (spt Z c)) (-jaB 1 (spt Z a) (spt Z b) (spt Z c)) (jaB 2 (spt Z a) (spt Z b) (spt Z c)) (jaB 3 (spt Z a) (spt Z b) (spt Z c)) (spt Z v)*(rG Z a*rG Z b*rG Z c*rG Z v) =
   (jaB 0 (spt Z a) (spt Z b) (spt Z c)*(rG Z a*rG Z b*rG Z c))*(rG Z v*(spt Z v).x)+(-jaB 1 (spt Z a) (spt Z b) (spt Z c)*(rG Z a*rG Z b*rG Z c))*(rG Z v*(spt Z v).y)+(jaB 2 (spt Z a) (spt Z b) (spt Z c)*(rG Z a*rG Z b*rG Z c))*(rG Z v*(spt Z v).z)-(jaB 3 (spt Z a) (spt Z b) (spt Z c)*(rG Z a*rG Z b*rG Z c))*(rG Z v*(spt Z v).w):=by
  unfold hgt;grind
 rw[e,jjE,jjF,jjG,jpj,v1,v2,v3,v4];have f:=jlv Z v;have e2:w3 Z*Z.u.x*dt a b c*rX Z v+w3 Z*Z.u.y*dt a b c*rY Z v+w3 Z*Z.u.z*dt a b c*rZ Z v-Z.w*Z.w*ud Z*dt a b c*rW Z v=Z.w*Z.w*dt a b c*(Z.w*Z.u.x*rX Z v+Z.w*Z.u.y*rY Z v+Z.w*Z.u.z*rZ Z v-ud Z*rW Z v):=by
  unfold w3;grind
 rw[e2,f,xbj]
theorem jmo (hw:1<=Z.w):0<w3 Z:=xaq (xaq (by omega) (by omega)) (by omega)
theorem jdG {a b c:Tri} (hw:1<=Z.w) (nz:Z.u.nz) (hd:dt a b c≠0):¬jbW (spt Z a) (spt Z b) (spt Z c):=fun ⟨h0,h1,h2⟩=>by
 have e0:=jjE Z a b c;have e1:=jjF Z a b c;have e2:=jjG Z a b c;rw[h0,xbg] at e0;rw[h1,Int.neg_zero,xbg] at e1;rw[h2,xbg] at e2;have w0:=jmo hw;have c:∀{i:Int},0=w3 Z*i*dt a b c->i=0:=fun {i} e=>by
  rcases xaI.mp e.symm with q | q
  ·rcases xaI.mp q with r | r
   ·omega
   ·exact r
  ·exact absurd q hd
 exact nz ⟨c e0,c e1,c e2⟩
def uk (Z:Sht) (k:Int):Int:=if k=0 then Z.u.x else if k=1 then -Z.u.y else Z.u.z
theorem jjH {a b c:Tri} {k:Int} (hw:1<=Z.w) (ha:a.pl) (hb:b.pl) (hc:c.pl) (hd:0<dt a b c) (k0:0<=k) (k2:k<=2):sgn (jaB k (spt Z a) (spt Z b) (spt Z c))=sgn (uk Z k):=by
 have gp:=xaq (xaq (jcV hw ha) (jcV hw hb)) (jcV hw hc);have wd:=xaq (jmo hw) hd;have e:k=0\/k=1\/k=2:=by omega
 rcases e with rfl | rfl | rfl
 ·refine jjD gp wd ?_;rw[jjE];show _=w3 Z*dt a b c*Z.u.x;grind
 ·refine jjD gp wd ?_;have z:=jjF Z a b c;show _=w3 Z*dt a b c*-Z.u.y;grind
 ·refine jjD gp wd ?_;rw[jjG];show _=w3 Z*dt a b c*Z.u.z;grind
theorem ix_lt {ix:List Nat} (h:Ix ix) {a:Nat} (ha:a<ix.length):ix.getD a 0<8:=by
 rw[xac,xab ha];exact h.2.2.2 _ (xa2 ha)
theorem jmp {k:Int} (hk:0<k) (ns:List Int):gl (ns.map (k*·))=k*gl ns:=by
 refine Int.dvd_antisymm (jbh _) (xaJ (by omega) (jbh _)) ?_ ?_
 ·exact jeH ns 0 _ k (by rw[xbj];exact Int.dvd_zero _) fun n hn=>jaT (xax.mpr ⟨n,hn,rfl⟩)
 ·refine je2 fun n hn=>?_;obtain⟨m,hm,rfl⟩:=xax.mp hn;exact Int.mul_dvd_mul (xct k) (jaT hm)
theorem jfD {k:Int} (hk:0<k) (ns:List Int):low (ns.map (k*·))=low ns:=by
 unfold low;rw[jmp hk,xaO];refine xbZ fun n _=>?_;exact Int.mul_ediv_mul_of_pos _ _ hk
theorem jmq (hf:f<l.length) (hi:i<l.length):pt (rot f l) i=pt l ((f+i) % l.length):=by
 unfold pt rot;rw[xac,xac];by_cases c:f+i<l.length
 ·rw[xah c,xaH (by rw[xaC];omega),xb5]
 ·have e:(f+i) % l.length=f+i-l.length:=by
   rw[Nat.mod_eq_sub_mod (by omega)];exact xah (by omega)
  rw[e,xat (by rw[xaC];omega),xaC,xcv,if_pos (by omega)]
  congr 2
  omega
theorem jbk (h:i<l.length):pt l i∈l:=by
 unfold pt;rw[xac,xab h];exact xa2 h
theorem jhA (h:p∈l):∃i,i<l.length/\pt l i=p:=by
 obtain⟨i,hi,e⟩:=xbF.mp h;refine⟨i,hi,?_⟩;unfold pt;rw[xac,xab hi];exact e
theorem jit (hg:0<g) (e:g*x=y):(0<=y->0<=x)/\(0<y->0<x):=by
 constructor
 ·intro h;apply xal;intro n;have:=xaA hg (show x<0 by omega);omega
 ·intro h;apply xal;intro n;have:=Int.mul_nonpos_of_nonneg_of_nonpos (show 0<=g by omega) (show x<=0 by omega);omega
theorem SameB.fresh {H3:Hp} (s0:Same H H3) (h:H L=none) (s:SameB L H3 H'):Same H H':=fun b o hb=>s b o (jax hb h) (s0 b o hb)
theorem jgn (hw:1<=Z.w) (hv:v.pl):1<=(spt Z v).w:=by
 have W1:0<rW Z v:=xaq (by omega) (show 0<v.z by have:1<=v.z:=hv;omega);exact (jit (jcV hw hv) (ja9 Z v).2.2.2).2 W1
theorem Box.keep (h:Box H L) (s:Same H H'):Box H' L:=by
 obtain⟨m,h⟩:=h;exact⟨m,s _ _ h⟩
theorem jnr (h:x.natAbs<=y.natAbs) (hy:Bd n y):Bd n x:=xbb h hy
theorem je9 {rs:List Addr} (h:i<rs.length):(rs.map V.ref)[i]?=some (.ref (ad rs i)):=by
 unfold ad;rw[xaf,xac,xab h];rfl
theorem jjI:∀{ys:List V},(∀(i:Nat) (y:V),ys[i]?=some y->∃e:Addr,y=.ref e)->∃es:List Addr,ys=es.map V.ref
  | [],_=>⟨[],rfl⟩
  | y :: ys, h => by
    obtain⟨e,rfl⟩:=h 0 y rfl;obtain⟨es,rfl⟩:=jjI (ys:=ys) fun i y hy=>h (i+1) y hy;exact⟨e::es,rfl⟩
def jjJ:Sp:=fun vs H Q _=>∃(b:Addr) (rs:List Addr),vs=[.ref b]/\H b=some (.tup (rs.map V.ref))/\3<=rs.length/\rs.length<=17 /\
 ∀(L:Addr) (H':Hp) (es:List Addr),Same H H'->H' L=some (.lst (es.map V.ref))->es.length=rs.length->(∀i,i<rs.length->H' (ad es i)=some (.tup [.ref (ad rs ((i+(rs.length-1)) % rs.length)),.ref (ad rs i)]))->Q (.ref L) H'
theorem jlx (T:Tx K mg t1 t2) (F:At K mg "edges_of" jch ["board"] []):jal P w K mg base CX0 1 "edges_of" ["board"] [] jjJ:=by
 refine F.ok jeD (fun vs H Q E h=>?_) (fun f cdv A outer s H vs Q E hr h=>?_)
 ·obtain⟨b,rs,rfl,_⟩:=h;rfl
 obtain⟨b,rs,rfl,hb,n3,n8,q⟩:=h;have S:=jeD;refine⟨_,(jai (jap (ja4 rfl (N':=["k","board"]) (ix:=[0]) ⟨rfl,rfl,by decide +kernel,by decide +kernel,by decide +kernel,(show ∀y:Str × NameKind,y∈_->y.2=NameKind.free->(jad jch).names.lookup y.1=some .cell\/(jad jch).names.lookup y.1=some .free from by decide +kernel),(.cons rfl (.inl rfl) rfl .nil)⟩ (jaU rfl T.m_range (jaa (jav jaJ rfl T.m_len PySem.boot_len (jaa (pv 0) jac jag)) jac jaN)) (fun _ _ _ _=>jan (i:=0) (show (["k","board"]:List Str).Nodup from by decide +kernel) rfl (Or.inl rfl)) (fun _ _ _ _=>jaR) (fun _ _ _ _=>(jaQ (jaa (jaj (jaY (K:=K) rfl) (pv 1) (jaq ja5 (pv 0) jab)) (jaa (jaj (jaY (K:=K) rfl) (pv 1) (pv 0)) jac jau) jau)))))),?_⟩;have lm:(rs.map V.ref).length=rs.length:=xaa _;have kb:SqT K H b (rs.map V.ref):=SqT.of hb;walk_at "rf";refine⟨_,.inr kb,by omega,by omega,fun acc hacc=>?_⟩;have e0:(((rs.map V.ref).length:Int)).toNat=rs.length:=by omega
 rw[e0];refine joV (n:=rs.length) (fun i y H'=>∃e:Addr,y=.ref e/\H' e=some (.tup [.ref (ad rs ((i+(rs.length-1)) % rs.length)),.ref (ad rs i)])) (fun i y J J' ⟨e,h1,h2⟩ st=>⟨e,h1,st _ _ h2⟩) (by omega) hacc ?_ ?_
 ·intro i H3 R hi s4 hR;have kb3:=s4.tup kb;have g1:(rs.map V.ref)[i]?=some (.ref (ad rs i)):=je9 hi;have g2:atI (rs.map V.ref) (0+(i:Int)-1)=some (.ref (ad rs ((i+(rs.length-1)) % rs.length))):=by
   by_cases i0:i=0
   ·subst i0;have e1:(0+(rs.length-1)) % rs.length=rs.length-1:=by rw[xbC];exact xah (by omega)
    rw[e1];exact jc4 (n:=rs.length-1) (by omega) (je9 (by omega))
   ·have e1:(i+(rs.length-1)) % rs.length=i-1:=by
     have z:i+(rs.length-1)=i-1+rs.length:=by omega
     rw[z,xa7];exact xah (by omega)
    have e2:(0+(i:Int)-1)=((i-1:Nat):Int):=by omega
    rw[e1,e2];exact jaI (je9 (by omega))
  walk_at "rf";refine ixT kb3 g2 ?_;refine ixT kb3 (by rw[xcu];exact jaI g1) ?_;exact⟨by decide,fun e he=>hR _ _ (Same.new he _) ⟨e,rfl,jaf⟩⟩
 intro ys H3 s4 e4 l4 p4;obtain⟨es,rfl⟩:∃es:List Addr,ys=es.map V.ref:=jjI fun i y hy=>let ⟨e,h1,_⟩:=p4 i y hy;⟨e,h1⟩;rw[xaa] at l4;refine q acc H3 es s4 e4 l4 fun i hi=>?_;obtain⟨e,h1,h2⟩:=p4 i _ (je9 (by omega));cases h1;exact h2
def ab (n:Int):Int:=if n<0 then -n else n
theorem jjK (p:Pt):sfp p p=false:=by
 unfold sfp sf;rw[if_neg (fun n=>n rfl),if_neg (fun n=>n rfl),if_neg (fun n=>n rfl)]
theorem ix1:∀n,n<18->∀a,a<n->∀f,f<n->∀i,i<n->(a+(f+i) % n) % n=((a+f) % n+i) % n/\(a+(n-(f+i) % n)) % n=((a+(n-f)) % n+(n-i)) % n:=by decide +kernel
theorem ix2:∀n,n<18->∀a,a<n->∀i,i<n->(a+(n-i) % n) % n=(a+(n-i)) % n/\(a+(n-(n-i) % n)) % n=(a+i) % n:=by decide +kernel
theorem ix3:∀n,n<18->∀a,a<n->∀i,i<n->(a+(n-1-i)) % n=((a+(n-1)) % n+(n-i)) % n/\(a+(n-(n-1-i))) % n=((a+1) % n+i) % n:=by decide +kernel
theorem ix4:∀n,n<18->∀a,a<n->∀i,i<n->(a+(i+(n-a)) % n) % n=i/\(a+(n-(a+(n-i)) % n)) % n=i:=by decide +kernel
theorem ix7:∀n,n<18->3<=n->∀a,a<n->(a+1) % n≠(a+(n-1)) % n/\(a+0) % n=a/\(a+(n-0)) % n=a:=by decide +kernel
def Dih (ps qs:List Pt):Prop:=qs.length=ps.length/\∃a,a<ps.length/\((∀i,i<ps.length->pt qs i=pt ps ((a+i) % ps.length))\/(∀i,i<ps.length->pt qs i=pt ps ((a+(ps.length-i)) % ps.length)))
theorem Dih.refl (h:3<=ps.length):Dih ps ps:=⟨rfl,0,by omega,.inl fun i hi=>by rw[xbC,xah hi]⟩
theorem Dih.rot (d:Dih ps qs) (n8:ps.length<=17) (hf:f<ps.length):Dih ps (rot f qs):=by
 obtain⟨hl,a,ha,d⟩:=d;have rp:∀i,i<ps.length->pt (My.rot f qs) i=pt qs ((f+i) % ps.length):=fun i hi=>by rw[jmq (by omega) (by omega),hl]
 have m:∀i,(f+i) % ps.length<ps.length:=fun i=>xaL _ (by omega);refine⟨by rw[jfC (by omega),hl],?_⟩;rcases d with d | d
 ·refine⟨(a+f) % ps.length,xaL _ (by omega),.inl fun i hi=>?_⟩;rw[rp i hi,d _ (m i),(ix1 _ (by omega) a ha f hf i hi).1]
 ·refine⟨(a+(ps.length-f)) % ps.length,xaL _ (by omega),.inr fun i hi=>?_⟩;rw[rp i hi,d _ (m i),(ix1 _ (by omega) a ha f hf i hi).2]
theorem jfE (hi:i<l.length):pt (turn true l) i=pt l ((l.length-i) % l.length):=by
  match l,hi with
  | x :: r, hi =>
    have e:turn true (x::r)=x::r.reverse:=rfl;rw[e];cases i with
    | zero=>rw[Nat.sub_zero,xbk];rfl
    | succ j =>
      have hj:j<r.length:=by simpa using hi
      have e2:((x::r).length-(j+1)) % (x::r).length=r.length-1-j+1:=by
        rw[xaw,xah (by omega)];omega
      rw[e2];unfold pt;rw[xac,xac,xbt,xbt,xbR hj]
theorem jly (b:Bool):(turn b l).length=l.length:=by
 unfold turn;cases b
 ·rfl
 ·rw[if_pos rfl,xad,xaQ,xau,xaC];omega
theorem Dih.turn (d:Dih ps qs) (n8:ps.length<=17) (b:Bool):Dih ps (turn b qs):=by
  cases b with
  | false=>exact d
  | true =>
    obtain⟨hl,a,ha,d⟩:=d;refine⟨by rw[jly,hl],a,ha,?_⟩;have tp:∀i,i<ps.length->pt (My.turn true qs) i=pt qs ((ps.length-i) % ps.length):=fun i hi=>by rw[jfE (by omega),hl]
    have m:∀i,(ps.length-i) % ps.length<ps.length:=fun i=>xaL _ (by omega);rcases d with d | d
    . exact .inr fun i hi=>by rw[tp i hi,d _ (m i),(ix2 _ (by omega) a ha i hi).1]
    . exact .inl fun i hi=>by rw[tp i hi,d _ (m i),(ix2 _ (by omega) a ha i hi).2]
theorem jpk (hi:i<l.length):pt l.reverse i=pt l (l.length-1-i):=by
 unfold pt;rw[xac,xac,xbR hi]
theorem Dih.rev (d:Dih ps qs) (n8:ps.length<=17):Dih ps qs.reverse:=by
 obtain⟨hl,a,ha,d⟩:=d;refine⟨by rw[xaQ,hl],?_⟩;have tp:∀i,i<ps.length->pt qs.reverse i=pt qs (ps.length-1-i):=fun i hi=>by rw[jpk (by omega),hl]
 rcases d with d | d
 ·exact⟨(a+(ps.length-1)) % ps.length,xaL _ (by omega),.inr fun i hi=>by rw[tp i hi,d _ (by omega),(ix3 _ (by omega) a ha i hi).1]⟩
 ·exact⟨(a+1) % ps.length,xaL _ (by omega),.inl fun i hi=>by rw[tp i hi,d _ (by omega),(ix3 _ (by omega) a ha i hi).2]⟩
theorem jpl (h:3<=ps.length):fF ps<ps.length:=by have:=jeA ps (ps.length-1);unfold fF;omega
theorem Dih.frm (d:Dih ps qs) (n3:3<=ps.length) (n8:ps.length<=17):Dih ps (frm qs qs) :=
 (d.rot n8 (by have:=jpl (ps:=qs) (by rw[d.1];exact n3);rw[d.1] at this;exact this)).turn n8 _
structure Tot (ps:List Pt):Prop where
 tr:∀p q r,p∈ps->q∈ps->r∈ps->sfp p q=true->sfp q r=true->sfp p r=true
 ne:∀i j,i<ps.length->j<ps.length->i≠j->sfp (pt ps i) (pt ps j)=true\/sfp (pt ps j) (pt ps i)=true
theorem Dih.mem (d:Dih ps qs) (n8:ps.length<=17) :p∈qs↔p∈ps:=by
 obtain⟨hl,a,ha,d⟩:=d;constructor
 ·intro h;obtain⟨i,hi,rfl⟩:=jhA h;rcases d with d | d
  ·rw[d i (by omega)];exact jbk (xaL _ (by omega))
  ·rw[d i (by omega)];exact jbk (xaL _ (by omega))
 ·intro h;obtain⟨i,hi,rfl⟩:=jhA h;rcases d with d | d
  ·have z:=d ((i+(ps.length-a)) % ps.length) (xaL _ (by omega));rw[(ix4 _ (by omega) a ha i hi).1] at z;rw[<- z];exact jbk (by rw[hl];exact xaL _ (by omega))
  ·have z:=d ((a+(ps.length-i)) % ps.length) (xaL _ (by omega));rw[(ix4 _ (by omega) a ha i hi).2] at z;rw[<- z];exact jbk (by rw[hl];exact xaL _ (by omega))
theorem jhB {ps qs:List Pt} (T:Tot ps) (hq:∀p,p∈qs->p∈ps):∀n,n<qs.length->∀i,i<=n->sfp (pt qs i) (pt qs (jhw qs n))=false
  | 0, hn, i, hi => by
    have e:i=0:=by omega
    subst e;exact jjK _
  | n + 1, hn, i, hi => by
    have ih:=jhB T hq n (by omega);have al:=jeA qs n;unfold jhw;cases c:sfp (pt qs (n+1)) (pt qs (jhw qs n)) with
    | true =>
      rw[if_pos rfl];by_cases e:i=n+1
      . rw[e]
        exact jjK _
      . cases z:sfp (pt qs i) (pt qs (n+1)) with
        | false=>rfl
        | true =>
          have t:=T.tr _ _ _ (hq _ (jbk (by omega))) (hq _ (jbk (by omega))) (hq _ (jbk (by omega))) z c;rw[ih i (by omega)] at t;cases t
    | false =>
      rw[if_neg (by decide)];by_cases e:i=n+1
      . rw[e]
        exact c
      . exact ih i (by omega)
theorem jmr {m:List Pt} (hl:l.length=n) (hm:m.length=n) (h:∀i,i<n->pt l i=pt m i):l=m:=by
 refine List.ext_getElem (by rw[hl,hm]) fun i h1 h2=>?_;have z:=h i (by omega);unfold pt at z;rw[xac,xac,xab h1,xab h2] at z;exact z
theorem jms (T:Tot ps) (d:Dih ps qs) (n3:3<=ps.length) (n8:ps.length<=17):(∀p,p∈ps->sfp p (pt (frm qs qs) 0)=false)/\sfp (pt (frm qs qs) (ps.length-1)) (pt (frm qs qs) 1)=false:=by
  have hl:=d.1;have fl:=jpl (ps:=qs) (by omega);have rl:(rot (fF qs) qs).length=ps.length:=by rw[jfC (by omega),hl]
  have dr:=d.rot n8 (f:=fF qs) (by omega);have h0:pt (rot (fF qs) qs) 0=pt qs (fF qs):=by rw[jmq fl (by omega),Nat.add_zero,xah fl]
  have mn:∀p,p∈ps->sfp p (pt (rot (fF qs) qs) 0)=false:=fun p hp=>by
    rw[h0];obtain⟨i,hi,rfl⟩:=jhA ((d.mem n8).mpr hp);exact jhB T (fun p h=>(d.mem n8).mp h) (qs.length-1) (by omega) i (by omega)
  have eb:fB qs=sfp (pt (rot (fF qs) qs) (ps.length-1)) (pt (rot (fF qs) qs) 1):=by unfold fB;rw[hl]
  unfold frm;cases c:fB qs with
  | false=>exact⟨mn,eb.symm.trans c⟩
  | true =>
    have t0:pt (turn true (rot (fF qs) qs)) 0=pt (rot (fF qs) qs) 0:=by rw[jfE (by omega),Nat.sub_zero,xbk]
    have t1':pt (turn true (rot (fF qs) qs)) 1=pt (rot (fF qs) qs) (ps.length-1):=by rw[jfE (by omega),rl,xah (by omega)]
    have t2':pt (turn true (rot (fF qs) qs)) (ps.length-1)=pt (rot (fF qs) qs) 1:=by
      rw[jfE (by omega),rl,xah (by omega)]
      congr 1
      omega
    rw[t0,t1',t2'];refine⟨mn,?_⟩;rw[eb] at c;cases z:sfp (pt (rot (fF qs) qs) 1) (pt (rot (fF qs) qs) (ps.length-1)) with
    | false=>rfl
    | true =>
      have m:∀i,i<ps.length->pt (rot (fF qs) qs) i∈ps:=fun i hi=>(dr.mem n8).mp (jbk (by omega));have t:=T.tr _ _ _ (m _ (by omega)) (m _ (by omega)) (m _ (by omega)) z c;rw[jjK] at t;cases t
theorem jlz {us:List Pt} (T:Tot ps) (n3:3<=ps.length) (n8:ps.length<=17) (d1:Dih ps qs) (d2:Dih ps us) (m1:∀p,p∈ps->sfp p (pt qs 0)=false) (m2:∀p,p∈ps->sfp p (pt us 0)=false) (l1:sfp (pt qs (ps.length-1)) (pt qs 1)=false) (l2:sfp (pt us (ps.length-1)) (pt us 1)=false):qs=us:=by
 obtain⟨hl,a,ha,d1⟩:=d1;obtain⟨hl',b,hb,d2⟩:=d2;have h0:pt qs 0=pt ps a:=by
  rcases d1 with d | d
  ·rw[d 0 (by omega),(ix7 _ (by omega) n3 a ha).2.1]
  ·rw[d 0 (by omega),(ix7 _ (by omega) n3 a ha).2.2]
 have h0':pt us 0=pt ps b:=by
  rcases d2 with d | d
  ·rw[d 0 (by omega),(ix7 _ (by omega) n3 b hb).2.1]
  ·rw[d 0 (by omega),(ix7 _ (by omega) n3 b hb).2.2]
 have ab:a=b:=by
  apply xal;intro n;rw[h0] at m1;rw[h0'] at m2;rcases T.ne a b ha hb n with z | z
  ·rw[m2 _ (jbk ha)] at z;cases z
  ·rw[m1 _ (jbk hb)] at z;cases z
 subst ab;have e7:=(ix7 _ (by omega) n3 a ha).1;have m:∀i,(a+i) % ps.length<ps.length:=fun i=>xaL _ (by omega);have sub:ps.length-(ps.length-1)=1:=by omega
 rcases d1 with d | d<;>rcases d2 with d' | d'
 ·exact jmr hl hl' fun i hi=>by rw[d i hi,d' i hi]
 ·rw[d _ (by omega),d _ (by omega)] at l1;rw[d' _ (by omega),d' _ (by omega),sub] at l2;rcases T.ne _ _ (m 1) (m (ps.length-1)) e7 with z | z
  ·rw[l2] at z;cases z
  ·rw[l1] at z;cases z
 ·rw[d _ (by omega),d _ (by omega),sub] at l1;rw[d' _ (by omega),d' _ (by omega)] at l2;rcases T.ne _ _ (m 1) (m (ps.length-1)) e7 with z | z
  ·rw[l1] at z;cases z
  ·rw[l2] at z;cases z
 ·exact jmr hl hl' fun i hi=>by rw[d i hi,d' i hi]
theorem jns (T:Tot ps) (n3:3<=ps.length) (n8:ps.length<=17) (d:Dih ps qs):frm qs qs=frm ps ps:=by
 obtain⟨a1,a2⟩:=jms T d n3 n8;obtain⟨b1,b2⟩:=jms T (Dih.refl n3) n3 n8;exact jlz T n3 n8 (d.frm n3 n8) ((Dih.refl n3).frm n3 n8) a1 b1 a2 b2
theorem jlA {b u v w:Int} (hu:0<u) (hv:0<v) (hw:0<w) (h1:a*v<=b*u) (h2:b*w<=c*v):a*w<=c*u:=by
 have e1:=xbp h1 (show 0<=w by omega);have e2:=xbp h2 (show 0<=u by omega);refine Int.le_of_mul_le_mul_right (a:=v) ?_ hv;have z1:a*w*v=a*v*w:=by grind
 have z2:c*u*v=c*v*u:=by grind
 have z3:b*u*w=b*w*u:=by grind
 rw[z1,z2];omega
theorem lt_tr {b u v w:Int} (hu:0<u) (hv:0<v) (hw:0<w) (h1:a*v<=b*u) (h2:b*w<=c*v) (h:a*v<b*u\/b*w<c*v):a*w<c*u:=by
 refine Int.lt_iff_le_and_ne.mpr ⟨jlA hu hv hw h1 h2,fun e=>?_⟩;rcases h with h | h
 ·have z:=jlA (a:=c) (b:=a) (c:=b) hv hu hv;have e1:=Int.mul_lt_mul_of_pos_right h hw;have e2:=xbp h2 (show 0<=u by omega);have z1:a*v*w=a*w*v:=by grind
  have z3:b*u*w=b*w*u:=by grind
  have z2:c*v*u=c*u*v:=by grind
  rw[z1,z3] at e1;rw[z2,<- e] at e2;omega
 ·have e1:=xbp h1 (show 0<=w by omega);have e2:=Int.mul_lt_mul_of_pos_right h hu;have z1:a*v*w=a*w*v:=by grind
  have z3:b*u*w=b*w*u:=by grind
  have z2:c*v*u=c*u*v:=by grind
  rw[z1,z3] at e1;rw[z2,<- e] at e2;omega
theorem jjL (p o:Pt):sfp p o=true↔p.x*o.w<o.x*p.w\/(p.x*o.w=o.x*p.w/\(p.y*o.w<o.y*p.w\/(p.y*o.w=o.y*p.w/\p.z*o.w<o.z*p.w))):=by
 unfold sfp sf;generalize p.x*o.w=a;generalize o.x*p.w=a';generalize p.y*o.w=b;generalize o.y*p.w=b';generalize p.z*o.w=c;generalize o.z*p.w=c';by_cases h1:a=a'
 ·rw[if_neg (fun n=>n h1)];by_cases h2:b=b'
  ·rw[if_neg (fun n=>n h2)];by_cases h3:c=c'
   ·rw[if_neg (fun n=>n h3)];constructor
    ·intro h;cases h
    ·intro h;omega
   ·rw[if_pos h3,decide_eq_true_iff];omega
  ·rw[if_pos h2,decide_eq_true_iff];omega
 ·rw[if_pos h1,decide_eq_true_iff];omega
theorem sf_tr {r:Pt} (hp:1<=p.w) (hq:1<=q.w) (hr:1<=r.w) (h1:sfp p q=true) (h2:sfp q r=true):sfp p r=true:=by
 rw[jjL] at h1 h2 |-
 have L:∀{a b c:Int},a*q.w<=b*p.w->b*r.w<=c*q.w->(a*q.w<b*p.w\/b*r.w<c*q.w)->a*r.w<c*p.w:=fun x y z=>lt_tr (by omega) (by omega) (by omega) x y z;have E:∀{a b c:Int},a*q.w=b*p.w->b*r.w=c*q.w->a*r.w=c*p.w:=fun {a b c} x y=>Int.le_antisymm (jlA (by omega) (by omega) (by omega) (Int.le_of_eq x) (Int.le_of_eq y)) (jlA (u:=r.w) (v:=q.w) (w:=p.w) (by omega) (by omega) (by omega) (Int.le_of_eq y.symm) (Int.le_of_eq x.symm));rcases h1 with h1 | ⟨e1,h1⟩
 ·rcases h2 with h2 | ⟨e2,h2⟩
  ·exact .inl (L (by omega) (by omega) (.inl h1))
  ·exact .inl (L (by omega) (by omega) (.inl h1))
 ·rcases h2 with h2 | ⟨e2,h2⟩
  ·exact .inl (L (by omega) (by omega) (.inr h2))
  ·refine .inr ⟨E e1 e2,?_⟩;rcases h1 with h1 | ⟨f1,h1⟩
   ·rcases h2 with h2 | ⟨f2,h2⟩
    ·exact .inl (L (by omega) (by omega) (.inl h1))
    ·exact .inl (L (by omega) (by omega) (.inl h1))
   ·rcases h2 with h2 | ⟨f2,h2⟩
    ·exact .inl (L (by omega) (by omega) (.inr h2))
    ·exact .inr ⟨E f1 f2,L (by omega) (by omega) (.inl h1)⟩
theorem par2 {b u v:Int} (hv:1<=v) (h1:a*v=b*u) (h2:c*v=d*u):a*d=c*b:=by
 refine Int.eq_of_mul_eq_mul_right (a:=v) (by omega) ?_;have e1:a*d*v=a*v*d:=by grind
 have e2:c*b*v=c*v*b:=by grind
 rw[e1,e2,h1,h2];grind
theorem jjM {o:Pt} (u:Pt) (ho:1<=o.w) (h1:p.x*o.w=o.x*p.w) (h2:p.y*o.w=o.y*p.w) (h3:p.z*o.w=o.z*p.w):jbW p o u:=by
 have a1:=par2 ho h2 h3;have a2:=par2 ho h1 h3;have a3:=par2 ho h1 h2;refine⟨?_,?_,?_⟩
 ·rw[jml];unfold jbK;grind
 ·rw[jmm];unfold jbK;grind
 ·rw[jmn];unfold jbK;grind
theorem jbd (h:3<=n):∃k,k<n/\j≠k/\i≠k:=by
 by_cases h0:i=0\/j=0
 ·by_cases h1:i=1\/j=1
  ·exact⟨2,by omega,by omega,by omega⟩
  ·exact⟨1,by omega,by omega,by omega⟩
 ·exact⟨0,by omega,by omega,by omega⟩
def sm (h:Nat->Int):Nat->Int
 | 0=>0
 | n+1=>sm h n+h n
def c2 (v v':Tri):Int:=v.x*v'.y-v.y*v'.x
def mi (p q:Pt):Int:=q.w / (Int.gcd p.w q.w:Nat)
def jec (r:Pt):Pt:=if r.w<0 then ⟨-r.x / gl [-r.x,-r.y,-r.z,-r.w],-r.y / gl [-r.x,-r.y,-r.z,-r.w],-r.z / gl [-r.x,-r.y,-r.z,-r.w],-r.w / gl [-r.x,-r.y,-r.z,-r.w]⟩ else ⟨r.x / gl [r.x,r.y,r.z,r.w],r.y / gl [r.x,r.y,r.z,r.w],r.z / gl [r.x,r.y,r.z,r.w],r.w / gl [r.x,r.y,r.z,r.w]⟩
def jnt:Sp:=fun vs H Q _=>∃r:Pt,vs=[.int r.x,.int r.y,.int r.z,.int r.w]/\r.sm/\r.w≠0/\∀(g:Addr) (H':Hp),Same H H'->Is4 H' g (jec r)->Q (.ref g) H'
theorem Sm2.neg {i:Int} (h:Sm2 i):Sm2 (-i):=by unfold Sm2 at *;rw[xcz];exact h
theorem Sm2.small {i:Int} (h:Sm2 i):Small i:=h.bd
theorem jpm (T:Tx K mg t1 t2) (F:At K mg "made_spot" jbp ["x","y","z","w"] []) (dz:jal P w K mg base CX0 2 "in_lowest_terms" ["numbers"] [] jlk):jal P w K mg base CX0 3 "made_spot" ["x","y","z","w"] [] jnt:=by
 refine F.ok jd1 (fun vs H Q E h=>?_) (fun f cdv A outer s H vs Q E hr h=>?_)
 ·obtain⟨r,rfl,_⟩:=h;rfl
 obtain⟨⟨x,y,z,w⟩,rfl,⟨sx,sy,sz,sw⟩,w0,q⟩:=h;have S:=jd1;refine⟨_,(jae (jaO (jar jea (pv 3) jab (jaz _))
  jbQ
  jaA)
  (jae (jaO (jar jfZ (pv 3) jab (jaz _))
  (jai (jap (jah dz hr.m rfl jat (jaa (jaQ (jaa (jd9 jcv (pv 0)) (jaa (jd9 jcv (pv 1)) (jaa (jd9 jcv (pv 2)) (jaa (jd9 jcv (pv 3)) jac jh9) jh9) jh9) jh9)) jac jaM))))
  jaA)
  (jai (jap (jah dz hr.m rfl jat (jaa (jaQ (jaa (pv 0) (jaa (pv 1) (jaa (pv 2) (jaa (pv 3) jac jag) jag) jag) jag)) jac jaM)))))),?_⟩
 walk_at "rf";have w0':¬w=0:=w0;rw[if_neg w0'];by_cases c:w<0
 ·rw[if_pos c];refine⟨by decide,fun p hp=>?_⟩;refine⟨p,[-x,-y,-z,-w],rfl,jaf,by simp,mem4 sx.neg.small sy.neg.small sz.neg.small sw.neg.small,?_,fun r H' h1 h2=>q r H' ((Same.new hp _).trans h1) ?_⟩
  ·have:=jd0 (ns:=[-x,-y,-z,-w]) (n:=-w) (by simp) (by omega);omega
  ·have e:jec ⟨x,y,z,w⟩=_:=if_pos c;rw[e];exact⟨h2,sx.neg.div,sy.neg.div,sz.neg.div,sw.neg.div⟩
 ·rw[if_neg c];refine⟨by decide,fun p hp=>?_⟩;refine⟨p,[x,y,z,w],rfl,jaf,by simp,mem4 sx.small sy.small sz.small sw.small,?_,fun r H' h1 h2=>q r H' ((Same.new hp _).trans h1) ?_⟩
  ·have:=jd0 (ns:=[x,y,z,w]) (n:=w) (by simp) (by omega);omega
  ·have e:jec ⟨x,y,z,w⟩=_:=if_neg c;rw[e];exact⟨h2,sx.div,sy.div,sz.div,sw.div⟩
def Pt.bd (n:Nat) (p:Pt):Prop:=Bd n p.x/\Bd n p.y/\Bd n p.z/\Bd n p.w
theorem jgo {m:Nat} {z v:Int} (hx:Bd n x) (hy:Bd n y) (hz:Bd n z) (hv:Bd n v) (hp:p.bd m):Bd (n+m+2) (hgt x y z v p):=by
 unfold hgt;have a:=Bd.mul hx hp.1;have b:=Bd.mul hy hp.2.1;have c:=Bd.mul hz hp.2.2.1;have d:=Bd.mul hv hp.2.2.2;rw[Int.add_sub_assoc];exact Bd.add (Bd.add a b) (Bd.sub c d)
def jd7 (x y z v:Int) (p o:Pt):Pt:=⟨hgt x y z v o*p.x-hgt x y z v p*o.x,hgt x y z v o*p.y-hgt x y z v p*o.y,hgt x y z v o*p.z-hgt x y z v p*o.z,hgt x y z v o*p.w-hgt x y z v p*o.w⟩
theorem jnu {m:Nat} {z v:Int} {o:Pt} (hx:Bd n x) (hy:Bd n y) (hz:Bd n z) (hv:Bd n v) (hp:p.bd m) (ho:o.bd m):(jd7 x y z v p o).bd (n+m+2+m+1):=by
 have h1:=jgo hx hy hz hv hp;have h2:=jgo hx hy hz hv ho;exact⟨Bd.sub (Bd.mul h2 hp.1) (Bd.mul h1 ho.1),Bd.sub (Bd.mul h2 hp.2.1) (Bd.mul h1 ho.2.1),Bd.sub (Bd.mul h2 hp.2.2.1) (Bd.mul h1 ho.2.2.1),Bd.sub (Bd.mul h2 hp.2.2.2) (Bd.mul h1 ho.2.2.2)⟩
def jpn:Sp:=fun vs H Q _=>∃(n m:Nat) (g r e:Addr) (x y z v:Int) (p o:Pt),vs=[.ref g,.ref r,.ref e]/\n+2*m+3<=650/\H g=some (.tup [.int x,.int y,.int z,.int v])/\Bd n x/\Bd n y/\Bd n z/\Bd n v/\Is4 H r p/\Is4 H e o/\p.bd m/\o.bd m/\(jd7 x y z v p o).w≠0/\∀(t:Addr) (H':Hp),Same H H'->Is4 H' t (jec (jd7 x y z v p o))->Q (.ref t) H'
theorem jpo (T:Tx K mg t1 t2) (F:At K mg "met_at" jfy ["plane","one","other"] []) (dC:jal P w K mg base CX0 1 "height_over" ["plane","spot"] [] spHt) (dO:jal P w K mg base CX0 3 "made_spot" ["x","y","z","w"] [] jnt):jal P w K mg base CX0 4 "met_at" ["plane","one","other"] [] jpn:=by
 refine F.ok jgj (fun vs H Q E h=>?_) (fun f cdv A outer s H vs Q E hr h=>?_)
 ·obtain⟨n,m,g,r,e,x,y,z,v,p,o,rfl,_⟩:=h;rfl
 obtain⟨n,m,g,r,e,x,y,z,v,p,o,rfl,nm,hg,bx,by',bz,bv,hr',he,hp,ho,w0,q⟩:=h;have S:=jgj;refine⟨_,(jae (jas (i:=3) S.nd rfl (Or.inl rfl) (jah dC hr.m rfl jat (jaa (pv 0) (jaa (pv 2) jac jag) jag)))
  (jae (jas (i:=4) S.nd rfl (Or.inl rfl) (jah dC hr.m rfl jat (jaa (pv 0) (jaa (pv 1) jac jag) jag)))
  (jai (jap (jah dO hr.m rfl jat (jaa (jaq ja5 (jaq jaw (pv 3) (jaj jao (pv 1) jab)) (jaq jaw (pv 4) (jaj jao (pv 2) jab))) (jaa (jaq ja5 (jaq jaw (pv 3) (jaj jao (pv 1) jab)) (jaq jaw (pv 4) (jaj jao (pv 2) jab))) (jaa (jaq ja5 (jaq jaw (pv 3) (jaj jao (pv 1) jab)) (jaq jaw (pv 4) (jaj jao (pv 2) jab))) (jaa (jaq ja5 (jaq jaw (pv 3) (jaj jao (pv 1) jab)) (jaq jaw (pv 4) (jaj jao (pv 2) jab))) jac jbf) jbf) jbf) jbf)))))),?_⟩
 have kr:=hr'.sq (K:=K);have ke:=he.sq (K:=K);have sm:∀{i:Int},Bd n i->Small i:=fun h=>Bd.mono h (by omega);walk_at "rf";refine⟨g,e,x,y,z,v,o,rfl,hg,sm bx,sm by',sm bz,sm bv,he,?_⟩;refine⟨g,r,x,y,z,v,p,rfl,hg,sm bx,sm by',sm bz,sm bv,hr',?_⟩;have b1:=(jgo bx by' bz bv hp).fit (by omega);have b2:=(jgo bx by' bz bv ho).fit (by omega);have f1:=hp.1.fit (by omega);have f2:=hp.2.1.fit (by omega);have f3:=hp.2.2.1.fit (by omega);have f4:=hp.2.2.2.fit (by omega);have f5:=ho.1.fit (by omega);have f6:=ho.2.1.fit (by omega);have f7:=ho.2.2.1.fit (by omega);have f8:=ho.2.2.2.fit (by omega);try walk_at "rf"
 walk_at "gf";have rb:=jnu bx by' bz bv hp ho
 have s2:∀{i:Int},Bd (n+m+2+m+1) i->Sm2 i:=fun h=>Bd.mono h (by omega);exact⟨jd7 x y z v p o,rfl,⟨s2 rb.1,s2 rb.2.1,s2 rb.2.2.1,s2 rb.2.2.2⟩,w0,q⟩
def jjN (x y z v:Int) (p o:Pt):List (Pt × Int):=(if sgn (hgt x y z v p)*sgn (hgt x y z v o)<0 then [(jec (jd7 x y z v p o),0)] else [])++[(o,sgn (hgt x y z v o))]
def sdd (x y z v:Int) (ps:List Pt) (n:Nat):List (Pt × Int):=(List.range n).flatMap fun i=>jjN x y z v (pt ps ((i+(ps.length-1)) % ps.length)) (pt ps i)
def Prs (H:Hp) (es:List Addr) (ds:List (Pt × Int)):Prop:=es.length=ds.length/\∀i,i<ds.length->∃r:Addr,H (ad es i)=some (.tup [.ref r,.int (ds.getD i (⟨0,0,0,0⟩,0)).2])/\Is4 H r (ds.getD i (⟨0,0,0,0⟩,0)).1
theorem jmt {z v:Int} {o:Pt} (hp:1<=p.w) (ho:1<=o.w) (h:sgn (hgt x y z v p)*sgn (hgt x y z v o)<0):(jd7 x y z v p o).w≠0:=by
 show hgt x y z v o*p.w-hgt x y z v p*o.w≠0;generalize hgt x y z v o=a at *
 generalize hgt x y z v p=b at *
 unfold sgn at h;by_cases c1:b>0
 ·rw[if_pos c1] at h;by_cases c2:a>0
  ·rw[if_pos c2] at h;omega
  ·rw[if_neg c2] at h;by_cases c3:a<0
   ·have h1:=xaq c1 (show 0<o.w by omega);have h2:=xaq (show 0 < -a by omega) (show 0<p.w by omega);rw[xcb] at h2;omega
   ·rw[if_neg c3] at h;omega
 ·rw[if_neg c1] at h;by_cases c3:b<0
  ·rw[if_pos c3] at h;by_cases c2:a>0
   ·have h1:=xaq (show 0 < -b by omega) (show 0<o.w by omega);have h2:=xaq c2 (show 0<p.w by omega);rw[xcb] at h1;omega
   ·rw[if_neg c2] at h;by_cases c4:a<0
    ·rw[if_pos c4] at h;omega
    ·rw[if_neg c4] at h;omega
  ·rw[if_neg c3] at h;omega
def jjO:Sp:=fun vs H Q _=>∃(n m:Nat) (b g:Addr) (rs:List Addr) (ps:List Pt) (x y z v:Int),vs=[.ref b,.ref g]/\n+2*m+3<=650/\H b=some (.tup (rs.map V.ref))/\Sps H rs ps/\3<=ps.length/\ps.length<=17/\(∀i,i<ps.length->(pt ps i).bd m/\1<=(pt ps i).w)/\H g=some (.tup [.int x,.int y,.int z,.int v])/\Bd n x/\Bd n y/\Bd n z/\Bd n v /\
 ∀(L:Addr) (H':Hp) (es:List Addr),Same H H'->H' L=some (.lst (es.map V.ref))->Prs H' es (sdd x y z v ps ps.length)->Q (.ref L) H'
theorem SameB.is4 (s:SameB sd H J) (h:H sd=some (.lst xs)) (k:Is4 H r p):Is4 J r p:=⟨s _ _ (fun e=>by rw[<- e,k.1] at h;cases h) k.1,k.2⟩
theorem SameB.tup (s:SameB sd H J) (h:H sd=some (.lst xs)) (k:H r=some (.tup ys)):J r=some (.tup ys):=s _ _ (fun e=>by rw[<- e,k] at h;cases h) k
theorem jjP (n:Int):Fit (sgn n):=by
 refine Bd.fit (n:=10) ?_;unfold sgn;split
 ·unfold Bd;decide
 ·split
  ·unfold Bd;decide
  ·unfold Bd;decide
variable {ds:List (Pt × Int)}
theorem Prs.keep {es:List Addr} (h:Prs H es ds) (s:Same H H'):Prs H' es ds:=⟨h.1,fun i hi=>by
 obtain⟨r,h1,h2⟩:=h.2 i hi;exact⟨r,s _ _ h1,h2.keep s⟩⟩
theorem Prs.snoc {p:Addr} {os:List Addr} {s:Int} (h:Prs J os ds) (hsd:J sd=some (.lst xs)) (hp:J p=some (.tup [.ref r,.int s])) (hr:Is4 J r q):Prs (upd J sd (.lst ys)) (os++[p]) (ds++[(q,s)]):=by
 have ne:∀{a:Addr} {zs:List V},J a=some (.tup zs)->a≠sd:=fun h e=>by rw[e,hsd] at h;cases h
 refine⟨by rw[xad,xad,h.1];rfl,fun i hi=>?_⟩;rw[xad,xce] at hi;by_cases c:i<ds.length
 ·obtain⟨r',h1,h2⟩:=h.2 i c;have e1:ad (os++[p]) i=ad os i:=by
   unfold ad;rw[xac,xac,xaH (by rw[h.1];exact c)]
  have e2:(ds++[(q,s)]).getD i (⟨0,0,0,0⟩,0)=ds.getD i (⟨0,0,0,0⟩,0):=by
   rw[xac,xac,xaH c]
  rw[e1,e2];exact⟨r',by rw[jaC (ne h1)];exact h1,by rw[jaC (ne h2.1)];exact h2.1,h2.2⟩
 ·have ei:i=ds.length:=by omega
  subst ei;have e1:ad (os++[p]) ds.length=p:=by
   unfold ad;rw[xac,xat (by rw[h.1];exact xae _),h.1,xcq];rfl
  have e2:(ds++[(q,s)]).getD ds.length (⟨0,0,0,0⟩,0)=(q,s):=by
   rw[xac,xat (xae _),xcq];rfl
  rw[e1,e2];exact⟨r,by rw[jaC (ne hp)];exact hp,by rw[jaC (ne hr.1)];exact hr.1,hr.2⟩
theorem jfF (x y z v:Int) (ps:List Pt) (i:Nat):sdd x y z v ps (i+1)=sdd x y z v ps i++jjN x y z v (pt ps ((i+(ps.length-1)) % ps.length)) (pt ps i):=by
 unfold sdd;rw[xaM,xb0];simp
theorem jgN (x y z v:Int) (ps:List Pt):∀n,(sdd x y z v ps n).length<=2*n
  | 0=>xae _
  | n + 1 => by
    have ih:=jgN x y z v ps n;rw[jfF,xad];have:(jjN x y z v (pt ps ((n+(ps.length-1)) % ps.length)) (pt ps n)).length<=2:=by
      unfold jjN;split<;>simp
    omega
theorem jlB (T:Tx K mg t1 t2) (F:At K mg "sided_round" jcq ["board","plane"] []) (Do:jal P w K mg base CX0 1 "edges_of" ["board"] [] jjJ) (dq:jal P w K mg base CX0 2 "side_of" ["plane","spot"] [] jhu) (Dv:jal P w K mg base CX0 4 "met_at" ["plane","one","other"] [] jpn):jal P w K mg base CX0 5 "sided_round" ["board","plane"] [] jjO:=by
 refine F.ok jdc (fun vs H Q E h=>?_) (fun f cdv A outer s H vs Q E hr h=>?_)
 ·obtain⟨n,m,b,g,rs,ps,x,y,z,v,rfl,_⟩:=h;rfl
 obtain⟨n,m,b,g,rs,ps,x,y,z,v,rfl,nm,hb,hs,n3,n9,lo,hg,bx,by',bz,bv,q⟩:=h;have S:=jdc;refine⟨_,(jae (jas (i:=2) S.nd rfl (Or.inl rfl) (jbs jac))
  (jae (jbE PassesOwn.never rfl (jbo (jah Do hr.m rfl jat (jaa (pv 0) jac jag))) (jan (i:=3) S.nd rfl (Or.inl rfl))
  (jae (jas (i:=4) S.nd rfl (Or.inl rfl) (jah dq hr.m rfl jat (jaa (pv 1) (jaa (jaj jao (pv 3) jab) jac jau) jag)))
  (jae (jas (i:=5) S.nd rfl (Or.inl rfl) (jah dq hr.m rfl jat (jaa (pv 1) (jaa (jaj jao (pv 3) jab) jac jau) jag)))
  (jae (jaO (jar jfZ (jaq jaw (pv 4) (pv 5)) jab (jaz _))
  (jai (jb7 (jfm PySem.F.plainAttrs_list PySem.F.slot_list_append PySem.F.type_list_append jbe (pv 2) (jaa (jaQ (jaa (jah Dv hr.m rfl jat (jaa (pv 1) (jaa (jaj jao (pv 3) jab) (jaa (jaj jao (pv 3) jab) jac jau) jau) jag)) (jaa jab jac jam) jaN)) jac jaM))))
  jaA)
  (jai (jb7 (jfm PySem.F.plainAttrs_list PySem.F.slot_list_append PySem.F.type_list_append jbe (pv 2) (jaa (jaQ (jaa (jaj jao (pv 3) jab) (jaa (pv 5) jac jag) jau)) jac jaM))))))))
  (jai (jap (pv 2))))),?_⟩
 have ln:=hs.len;have sm:∀{i:Int},Bd n i->Small i:=fun h=>Bd.mono h (by omega);walk_at "rf";refine⟨by decide,fun sd hsd=>?_⟩;refine jeP hsd fun H1 s1 e1=>?_;refine⟨b,rs,rfl,s1 _ _ hb,by omega,by omega,fun L H2 es s2 e2 l2 p2=>?_⟩;try walk_at "rf"
 have e1':=s2 _ _ e1;have Lsd:L≠sd:=fun z=>by
  rw[z,e1'] at e2;injection e2 with e2
  injection e2 with e2
  have:=congrArg List.length e2;rw[xaa,l2,ln] at this;simp at this;omega
 have hs2:=(hs.keep s1.t).keep s2.t;refine⟨⟨_,SqL.of e2⟩,jbL (K:=K) (a:=L) (xs:=es.map V.ref) (fun i σ J=>SameB sd H2 J/\i<=ps.length/\∃(os:List Addr) (o3 o4 o5:Option V),σ=[some (.ref b),some (.ref g),some (.ref sd),o3,o4,o5]/\J sd=some (.lst (os.map V.ref))/\Prs J os (sdd x y z v ps i)) ⟨SameB.refl sd H2,xaG _,[],none,none,none,rfl,e1',rfl,fun i hi=>absurd hi (xaR _)⟩ (fun i σ J hi hP=>SqL.of (hP.1 _ _ Lsd e2)) ?_ ?_⟩
 ·rintro i ev σ J hi ⟨sJ,li,os,o3,o4,o5,rfl,eJ,hP⟩;have il:i<es.length:=by have:=(xag.mp hi).1;rw[xaa] at this;exact this
  rw[je9 il] at hi;cases hi;have pi:=p2 i (by omega);rw[ln] at pi;have hm:(i+(ps.length-1)) % ps.length<ps.length:=xaL _ (by omega);have q0:=SameB.is4 sJ e1' (hs2.get hm).2;have q1:=SameB.is4 sJ e1' (hs2.get (i:=i) (by omega)).2;have kE:=SqT.of (K:=K) (SameB.tup sJ e1' pi);have kg:=SameB.tup sJ e1' (s2 _ _ (s1 _ _ hg));obtain⟨l0,w0⟩:=lo _ hm;obtain⟨l1,w1⟩:=lo i (by omega);try walk_at "rf"
  refine ixT kE (i:=0) rfl ⟨g,_,x,y,z,v,_,rfl,kg,sm bx,sm by',sm bz,sm bv,q0,?_⟩;refine ixT kE (i:=1) rfl ⟨g,_,x,y,z,v,_,rfl,kg,sm bx,sm by',sm bz,sm bv,q1,?_⟩;try walk_at "rf"
  refine⟨jjP _,jjP _,?_⟩;have dl:=jgN x y z v ps i;have ol:os.length<=34:=by rw[hP.1];omega
  by_cases c:sgn (hgt x y z v (pt ps ((i+(ps.length-1)) % ps.length)))*sgn (hgt x y z v (pt ps i))<0
  ·rw[if_pos c];refine⟨.inl ⟨_,SqL.of eJ⟩,ixT kE (i:=0) rfl (ixT kE (i:=1) rfl ⟨n,m,g,_,_,x,y,z,v,_,_,rfl,nm,kg,bx,by',bz,bv,q0,q1,l0,l1,jmt w0 w1 c,fun t J1 s3 e3=>⟨by decide,fun p hp=>?_⟩⟩)⟩;refine jeP hp fun J2 s4 e4=>?_;have S4:=s3.trans s4;have eJ2:=S4 _ _ eJ;refine⟨sd,_,_,rfl,rfl,eJ2,jaF (by rw[xaa];omega),?_⟩;have P5:=(hP.keep S4).snoc (ys:=os.map V.ref++[V.ref p]) eJ2 e4 (e3.keep s4);have e5:upd J2 sd (.lst (os.map V.ref++[V.ref p])) sd=some (.lst ((os++[p]).map V.ref)):=by rw[xaj];exact jaf
   have s5:SameB sd J2 (upd J2 sd (.lst (os.map V.ref++[V.ref p]))):=fun b' o' nb hb'=>by rw[jaC nb];exact hb'
   generalize upd J2 sd (.lst (os.map V.ref++[V.ref p]))=J3 at P5 e5 s5 |-
   have S5:SameB sd J J3:=SameB.trans S4.b s5;have kE5:=SqT.of (K:=K) (SameB.tup S5 eJ (SameB.tup sJ e1' pi));have q15:=SameB.is4 S5 eJ q1;refine⟨.inl ⟨_,SqL.of e5⟩,ixT kE5 (i:=1) rfl ⟨by decide,fun p' hp'=>?_⟩⟩;refine jeP hp' fun J4 s6 e6=>?_;have eJ4:=s6 _ _ e5;refine⟨sd,_,_,rfl,rfl,eJ4,jaF (by rw[xaa,xad,xce];omega),?_⟩;have P7:=(P5.keep s6).snoc (ys:=(os++[p]).map V.ref++[V.ref p']) eJ4 e6 (q15.keep s6);refine⟨SameB.trans sJ (SameB.trans S5 (SameB.trans s6.b fun b' o' nb hb'=>by rw[jaC nb];exact hb')),by omega,os++[p]++[p'],by rw[jaf];simp,?_⟩;have eS:sdd x y z v ps (i+1)=sdd x y z v ps i++[(jec (jd7 x y z v (pt ps ((i+(ps.length-1)) % ps.length)) (pt ps i)),0)]++[(pt ps i,sgn (hgt x y z v (pt ps i)))]:=by
    rw[jfF];unfold jjN;rw[if_pos c,xbu]
   rw[eS];exact P7
  ·rw[if_neg c];refine⟨.inl ⟨_,SqL.of eJ⟩,ixT kE (i:=1) rfl ⟨by decide,fun p' hp'=>?_⟩⟩;refine jeP hp' fun J4 s6 e6=>?_;have eJ4:=s6 _ _ eJ;refine⟨sd,_,_,rfl,rfl,eJ4,jaF (by rw[xaa];omega),?_⟩;have P7:=(hP.keep s6).snoc (ys:=os.map V.ref++[V.ref p']) eJ4 e6 (q1.keep s6);refine⟨SameB.trans sJ (SameB.trans s6.b fun b' o' nb hb'=>by rw[jaC nb];exact hb'),by omega,os++[p'],by rw[xaj];exact jaf,?_⟩;have eS:sdd x y z v ps (i+1)=sdd x y z v ps i++[(pt ps i,sgn (hgt x y z v (pt ps i)))]:=by
    rw[jfF];unfold jjN;rw[if_neg c,List.nil_append]
   rw[eS];exact P7
 ·rintro σ J ⟨sJ,li,os,o3,o4,o5,rfl,eJ,hP⟩;have el:(es.map V.ref).length=ps.length:=by rw[xaa,l2,ln]
  rw[el] at hP;exact⟨_,rfl,q sd J os (SameB.fresh s1 hsd (s2.b.trans sJ)) eJ hP⟩
variable {ρ σ:L2.St}
variable {te:TE}
theorem jlC {a:Addr} {g:TG} {tt:TT} {acc:Addr} {Z:Hp->Prop} (f:Nat->V) (c:Nat->Bool) (hn:zs.length<1000) (hacc:H1 acc=none) (hz:SqL K H1 a zs)
  (hs:∀(i:Nat) (z:V) (v0:L2.St) (H3:Hp) (Rt:V->Hp->Prop) (Rn:Hp->Prop),zs[i]?=some z->v0.length=n->Same H1 H3->(c i=true->∀H4,Same H3 H4->Rt (f i) H4)->(c i=false->∀H4,Same H3 H4->Rn H4)->g z (v0++ρ) H3 fun σ2 H2=>(∃v:L2.St,v.length=n/\σ2=v++ρ)/\tt σ2 H2 fun b H3=>if b=true then te σ2 H3 Rt else Rn H3)
  (hd:∀H',Same H1 H'->H' acc=some (.lst (((List.range zs.length).filter c).map f))->Z H'):jbS (Itl K a) n ρ g tt te acc Z H1:=by
 refine⟨fun i m xs H=>(Same H1 H/\H acc=some (.lst xs)/\xs=((List.range i).filter c).map f)/\i<=zs.length/\m=zs.length-i,⟨zs.length,⟨Same.new hacc _,jaf,rfl⟩,xaG _,rfl⟩,?_⟩;rintro i m xs H ⟨⟨g1,g2,rfl⟩,hi,rfl⟩;have sq:=g1.seq hz;have hl:(((List.range i).filter c).map f).length<sizeLine:=jaF (by
  rw[xaa];have:=xbQ c (List.range i);rw[xaV] at this;omega)
 by_cases hlt:i<zs.length
 ·have ez:zs[i]?=some zs[i]:=xab hlt;refine .inr ⟨⟨zs,zs[i],sq,ez⟩,(fun y H4=>y=f i/\c i=true/\Same H1 H4/\H4 acc=some (.lst (((List.range i).filter c).map f))),fun H3=>c i=false/\Same H1 H3/\H3 acc=some (.lst (((List.range i).filter c).map f)),?_,?_,?_⟩
  ·rintro y H4 ⟨rfl,ci,s4,a4⟩;refine⟨a4,hl,zs.length-(i+1),by omega,⟨Same.keepN s4 hacc _,jaf,?_⟩,hlt,rfl⟩;rw[xaM,xaB,xaj,xaX,if_pos ci];rfl
  ·rintro H3 ⟨ci,s3,a3⟩;refine⟨zs.length-(i+1),by omega,⟨s3,a3,?_⟩,hlt,rfl⟩;rw[xaM,xaB,xaj,xaX,if_neg (by rw[ci];decide)];simp
  ·rintro v0 x H' l0 ⟨rfl,hx⟩;have ex:x=zs[i]:=by
    have z:=hx zs sq;rw[ez] at z;exact (Option.some.inj z).symm
   subst ex;exact hs i _ v0 H' _ _ ez l0 g1 (fun ci H4 s4=>⟨rfl,ci,g1.trans s4,s4 _ _ g2⟩) (fun ci H4 s4=>⟨ci,g1.trans s4,s4 _ _ g2⟩)
 ·have e:i=zs.length:=by omega
  subst e;exact .inl ⟨⟨zs,sq,xae _⟩,hd _ g1 g2⟩
def kLo (ds:List (Pt × Int)):List Pt:=(ds.filter fun d=>decide (d.2<=0)).map (·.1)
def kHi (ds:List (Pt × Int)):List Pt:=(ds.filter fun d=>decide (0<=d.2)).map (·.1)
def jgp:Sp:=fun vs H Q _=>∃(n m:Nat) (b g:Addr) (rs:List Addr) (ps:List Pt) (x y z v:Int),vs=[.ref b,.ref g]/\n+2*m+3<=650/\H b=some (.tup (rs.map V.ref))/\Sps H rs ps/\3<=ps.length/\ps.length<=17/\(∀i,i<ps.length->(pt ps i).bd m/\1<=(pt ps i).w)/\H g=some (.tup [.int x,.int y,.int z,.int v])/\Bd n x/\Bd n y/\Bd n z/\Bd n v /\
  ((∀ i, i<ps.length->hgt x y z v (pt ps i) = 0)/\(∀ (t : Addr) (H' : Hp), Same H H'->H' t = some (.tup [.non, .non])->Q (.ref t) H') \/
   (∀i,i<ps.length->0<=hgt x y z v (pt ps i))/\(∃i,i<ps.length/\0<hgt x y z v (pt ps i))/\(∀(t:Addr) (H':Hp),Same H H'->H' t=some (.tup [.non,.ref b])->Q (.ref t) H') \/
   (∀i,i<ps.length->hgt x y z v (pt ps i)<=0)/\(∃i,i<ps.length/\hgt x y z v (pt ps i)<0)/\(∀(t:Addr) (H':Hp),Same H H'->H' t=some (.tup [.ref b,.non])->Q (.ref t) H') \/
   (∃i,i<ps.length/\0<hgt x y z v (pt ps i))/\(∃i,i<ps.length/\hgt x y z v (pt ps i)<0)/\3<=(kLo (sdd x y z v ps ps.length)).length/\(kLo (sdd x y z v ps ps.length)).length<=17/\3<=(kHi (sdd x y z v ps ps.length)).length/\(kHi (sdd x y z v ps ps.length)).length<=17 /\
     (∀(t:Addr) (H':Hp) (l1 l2:Addr) (r1 r2:List Addr),Same H H'->H' t=some (.tup [.ref l1,.ref l2])->H' l1=some (.tup (r1.map V.ref))->Sps H' r1 (frm (kLo (sdd x y z v ps ps.length)) (kLo (sdd x y z v ps ps.length)))->H' l2=some (.tup (r2.map V.ref))->Sps H' r2 (frm (kHi (sdd x y z v ps ps.length)) (kHi (sdd x y z v ps ps.length)))->Q (.ref t) H'))
theorem jhC {H:Hp} {ds:List (Pt × Int)} {r:Nat->Addr} (c:Int->Bool):∀n,n<=ds.length->(∀i,i<ds.length->Is4 H (r i) (ds.getD i (⟨0,0,0,0⟩,0)).1)->Sps H (((List.range n).filter fun i=>c (ds.getD i (⟨0,0,0,0⟩,0)).2).map r) (((ds.take n).filter fun d=>c d.2).map (·.1))
  | 0, _, _ => by
    rw[List.take_zero];exact .nil
  | n + 1, hn, h => by
    have ih:=jhC c n (by omega) h;have eg:ds[n]?=some (ds.getD n (⟨0,0,0,0⟩,0)):=by
      rw[xac,xab (by omega)];rfl
    rw[xaZ,eg,xaM,xaB,xaj,xaB,xaj];refine ih.app ?_;show Sps H ((List.filter _ [n]).map r) ((List.filter _ [ds.getD n (⟨0,0,0,0⟩,0)]).map (·.1));cases cc:c (ds.getD n (⟨0,0,0,0⟩,0)).2 with
    | true =>
      rw[xaX,if_pos cc,xaX,if_pos cc];exact .cons (h n (by omega)) .nil
    | false =>
      rw[xaX,if_neg (by rw[cc];decide),xaX,if_neg (by rw[cc];decide)];exact .nil
theorem kept {acc:Addr} {es:List Addr} {tt:TT} {Z:Hp->Prop} (c:Int->Bool) (e2:H1 L=some (.lst (es.map V.ref))) (hP:Prs H1 es ds) (hl:ds.length<=100) (hacc:H1 acc=none)
    (ht:∀(r:Addr) (s:Int) (H:Hp) (R:Bool->Hp->Prop),R (c s) H->tt [some (.ref r),some (.int s)] H R)
    (hd:∀(H':Hp) (rs:List Addr),Same H1 H'->H' acc=some (.lst (rs.map V.ref))->Sps H' rs ((ds.filter fun d=>c d.2).map (·.1))->Z H'):jbS (Itl K L) 2 [] (jkI K 2 (jdJ (jbA 0) (jdJ (jbA 1) jkN))) tt (jl0 0) acc Z H1:=by
  obtain⟨r,hr⟩:∃r:Nat->Addr,∀i,i<ds.length->H1 (ad es i)=some (.tup [.ref (r i),.int (ds.getD i (⟨0,0,0,0⟩,0)).2])/\Is4 H1 (r i) (ds.getD i (⟨0,0,0,0⟩,0)).1:=⟨fun i=>if h:i<ds.length then (hP.2 i h).choose else 0,fun i hi=>by simp only[dif_pos hi];exact (hP.2 i hi).choose_spec⟩;refine jlC (fun i=>V.ref (r i)) (fun i=>c (ds.getD i (⟨0,0,0,0⟩,0)).2) (by rw[xaa,hP.1];omega) hacc (SqL.of e2) (fun i z v0 H3 Rt Rn hz l0 s3 ht' hn'=>?_) (fun H' s' e'=>?_)
  . have il:i < es.length:=by have:=(xag.mp hz).1; rw[xaa] at this; exact this
    rw[je9 il] at hz;cases hz;obtain⟨h1,h2⟩:=hr i (by rw[<- hP.1];exact il)
    match v0,l0 with
    | [u, v], _ =>
      refine⟨_,_,rfl,SqT.of (s3 _ _ h1),rfl,_,_,rfl,_,_,rfl,rfl,?_⟩;refine⟨⟨[some (V.ref (r i)),some (V.int (ds.getD i (⟨0,0,0,0⟩,0)).2)],rfl,rfl⟩,ht (r i) _ H3 _ ?_⟩;cases cc:c (ds.getD i (⟨0,0,0,0⟩,0)).2 with
      | true =>
        rw[if_pos rfl];exact⟨_,rfl,ht' cc H3 (Same.refl _)⟩
      | false =>
        rw[if_neg (by decide)];exact hn' cc H3 (Same.refl _)
  . rw[xaa,hP.1] at e'
    have sp:=jhC (H:=H') (r:=r) c ds.length (xae _) fun i hi=>(hr i hi).2.keep s';rw[xa3] at sp;exact hd H' _ s' (by rw[xaO];exact e') sp
theorem jnv (T:Tx K mg t1 t2) (F:At K mg "cut_by" jbN ["board","plane"] []) (dq:jal P w K mg base CX0 2 "side_of" ["plane","spot"] [] jhu) (Dg:jal P w K mg base CX0 5 "sided_round" ["board","plane"] [] jjO) (dF:jal P w K mg base CX0 2 "formed" ["corners"] [] jfB):jal P w K mg base CX0 6 "cut_by" ["board","plane"] [] jgp:=by
 refine F.ok jgl (fun vs H Q E h=>?_) (fun f cdv A outer s H vs Q E hr h=>?_)
 ·obtain⟨n,m,b,g,rs,ps,x,y,z,v,rfl,_⟩:=h;rfl
 obtain⟨n,m,b,g,rs,ps,x,y,z,v,rfl,nm,hb,hc,n3,n8,lo,hg,bx,by',bz,bv,h⟩:=h;have sx:Small x:=Bd.mono bx (by omega);have sy:Small y:=Bd.mono by' (by omega)
 have sz:Small z:=Bd.mono bz (by omega);have sv:Small v:=Bd.mono bv (by omega);have S:=jgl;refine⟨_,(jae (jbD (i:=2) rfl S.nd rfl rfl (N':=["corner","plane"]) (ix:=[1]) ⟨rfl,rfl,by decide +kernel,by decide +kernel,by decide +kernel,(show ∀y:Str × NameKind,y∈_->y.2=NameKind.free->(jad jbN).names.lookup y.1=some .cell\/(jad jbN).names.lookup y.1=some .free from by decide +kernel),(.cons rfl (.inl rfl) rfl .nil)⟩ (jcu (pv 0)) (fun _ _ _ _=>jan (i:=0) (show (["corner","plane"]:List Str).Nodup from by decide +kernel) rfl (Or.inl rfl)) (fun _ _ _ _=>jaR) (fun _ _ _ _=>(jah dq hr.m rfl jat (jaa (pv 1) (jaa (pv 0) jac jag) jag))))
  (jae (jaO (PW.pt (jfX (jar jea (jav (jer rfl) rfl T.m_min boot_min (jaa (pv 2) jac jag)) jab (jaz _)) (jfg (jar jea (jav (jeq rfl) rfl T.m_max boot_max (jaa (pv 2) jac jag)) jab (jaz _)))))
  (jai (jap (jaQ (jaa jbr (jaa jbr jac jam) jam))))
  jaA)
  (jae (jaO (jar jm1 (jav (jer rfl) rfl T.m_min boot_min (jaa (pv 2) jac jag)) jab (jaz _))
  (jai (jap (jaQ (jaa jbr (jaa (pv 0) jac jag) jam))))
  jaA)
  (jae (jaO (jar joM (jav (jeq rfl) rfl T.m_max boot_max (jaa (pv 2) jac jag)) jab (jaz _))
  (jai (jap (jaQ (jaa (pv 0) (jaa jbr jac jam) jag))))
  jaA)
  (jae (jas (i:=3) S.nd rfl (Or.inl rfl) (jah Dg hr.m rfl jat (jaa (pv 0) (jaa (pv 1) jac jag) jag)))
  (jae (jas (i:=4) S.nd rfl (Or.inl rfl) (jah dF hr.m rfl jat (jaa (jcf rfl (N':=["spot","side"]) (ix:=[]) (xs0:=["spot","side"]) ⟨rfl,rfl,by decide +kernel,by decide +kernel,by decide +kernel,(show ∀y:Str × NameKind,y∈_->y.2=NameKind.free->(jad jbN).names.lookup y.1=some .cell\/(jad jbN).names.lookup y.1=some .free from by decide +kernel),.nil⟩ (jbo (pv 3)) (fun _ _ _ _=>jdl (K:=K) (n:=2) rfl rfl (jay (jan (i:=0) (show (["spot","side"]:List Str).Nodup from by decide +kernel) rfl (Or.inl rfl)) (jay (jan (i:=1) (show (["spot","side"]:List Str).Nodup from by decide +kernel) rfl (Or.inl rfl)) jbb))) (fun _ _ _ _=>(jfn (jar joM (pv 1) jab (jaz _)))) (fun _ _ _ _=>(pv 0))) jac jb4)))
  (jae (jas (i:=5) S.nd rfl (Or.inl rfl) (jah dF hr.m rfl jat (jaa (jcf rfl (N':=["spot","side"]) (ix:=[]) (xs0:=["spot","side"]) ⟨rfl,rfl,by decide +kernel,by decide +kernel,by decide +kernel,(show ∀y:Str × NameKind,y∈_->y.2=NameKind.free->(jad jbN).names.lookup y.1=some .cell\/(jad jbN).names.lookup y.1=some .free from by decide +kernel),.nil⟩ (jbo (pv 3)) (fun _ _ _ _=>jdl (K:=K) (n:=2) rfl rfl (jay (jan (i:=0) (show (["spot","side"]:List Str).Nodup from by decide +kernel) rfl (Or.inl rfl)) (jay (jan (i:=1) (show (["spot","side"]:List Str).Nodup from by decide +kernel) rfl (Or.inl rfl)) jbb))) (fun _ _ _ _=>(jfn (jar jm1 (pv 1) jab (jaz _)))) (fun _ _ _ _=>(pv 0))) jac jb4)))
  (jai (jap (jaQ (jaa (pv 4) (jaa (pv 5) jac jag) jag))))))))))),?_⟩
 have ln:=hc.len;have lm:(rs.map V.ref).length=ps.length:=by rw[xaa,ln]
 have kb:SqT K H b (rs.map V.ref):=SqT.of hb;walk_at "rf";refine⟨⟨_,kb⟩,fun acc hacc=>?_⟩;refine jma (zs:=rs.map V.ref) (fun i y' _=>y'=.int (sgn (hgt x y z v (pt ps i)))) (fun _ _ _ _ h _=>h) (by omega) hacc kb ?_ ?_
 ·intro i r H3 R hi s3 hR;have hlt:i<ps.length:=by have:=(xag.mp hi).1;omega
  obtain⟨b1,b2⟩:=(hc.keep s3.t).get hlt;rw[b1] at hi;cases hi;walk_at "rf";exact⟨g,_,x,y,z,v,_,rfl,s3 _ _ hg,sx,sy,sz,sv,b2,hR _ _ (Same.refl _) rfl⟩
 intro ys H1 s1 e1 l1 p1;obtain⟨ms,rfl⟩:=jju fun i y' hy=>⟨_,p1 i y' hy⟩;rw[xaa,lm] at l1;have gm:∀{i:Nat},i<ps.length->ms[i]?=some (sgn (hgt x y z v (pt ps i))):=fun {i} hi=>by
  have e:ms[i]?=some ms[i]:=xab (by omega);have q:=p1 i (.int ms[i]) (by rw[xaf,e];rfl);injection q with q
  rw[e,q]
 have mem:∀{m:Int},m∈ms->∃i,i<ps.length/\m=sgn (hgt x y z v (pt ps i)):=fun {m} hm=>by
  obtain⟨i,hi,rfl⟩:=xbF.mp hm;have z:=gm (i:=i) (by omega);rw[xab hi] at z;exact⟨i,by omega,Option.some.inj z⟩
 have mem2:∀{i:Nat},i<ps.length->sgn (hgt x y z v (pt ps i))∈ms:=fun hi=>xav (gm hi);have ne:ms≠[]:=fun e=>by rw[e] at l1;simp at l1;omega
 have k1:SqL K H1 acc (ms.map V.int):=SqL.of e1;try walk_at "rf"
 refine⟨_,k1,ne,fun mi hmi lmi=>?_⟩;obtain⟨i1,hi1,ei1⟩:=mem hmi;rcases h with ⟨h0,q⟩ | ⟨h0,⟨j,hj,jp⟩,q⟩ | ⟨h0,⟨j,hj,jp⟩,q⟩ | ⟨⟨k,hk,kp⟩,⟨j,hj,jp⟩,a3,a9,b3,b9,q⟩
 ·have z1:mi=0:=by rw[ei1,jph (h0 i1 hi1)]
  rw[if_pos z1];refine⟨_,k1,ne,fun ma hma lma=>?_⟩;obtain⟨i2,hi2,ei2⟩:=mem hma;have z2:ma=0:=by rw[ei2,jph (h0 i2 hi2)]
  rw[if_pos z2];exact⟨by decide,fun t ht=>q t _ (s1.trans (Same.new ht _)) jaf⟩
 ·have z1:0<=mi:=by rw[ei1];exact jmk (h0 i1 hi1)
  have fin:2<=sizeLine/\∀p:Addr,H1 p=none->Q (.ref p) (upd H1 p (.tup [.non,.ref b])):=⟨by decide,fun t ht=>q t _ (s1.trans (Same.new ht _)) jaf⟩;have nn:∀{m:Int},m∈ms->0<=m:=fun hm=>by
   obtain⟨i,hi,e⟩:=mem hm;rw[e];exact jmk (h0 i hi)
  by_cases z:mi=0
  ·rw[if_pos z];refine⟨_,k1,ne,fun ma hma lma=>?_⟩;have m1:=lma _ (mem2 hj);rw[jpg jp] at m1;rw[if_neg (by omega)];refine⟨_,k1,ne,fun m2 hm2 lm2=>?_⟩;rw[if_pos (nn hm2)];exact fin
  ·rw[if_neg z];refine⟨_,k1,ne,fun m2 hm2 lm2=>?_⟩;rw[if_pos (nn hm2)];exact fin
 ·have m1:=lmi _ (mem2 hj);rw[jlu jp] at m1;rw[if_neg (by omega)];refine⟨_,k1,ne,fun m2 hm2 lm2=>?_⟩;have m3:=lm2 _ (mem2 hj);rw[jlu jp] at m3;rw[if_neg (by omega)];refine⟨_,k1,ne,fun ma hma lma=>?_⟩;obtain⟨i2,hi2,ei2⟩:=mem hma;have z2:ma<=0:=by rw[ei2];exact jpf (h0 i2 hi2)
  rw[if_pos z2];exact⟨by decide,fun t ht=>q t _ (s1.trans (Same.new ht _)) jaf⟩
 ·have m1:=lmi _ (mem2 hj);rw[jlu jp] at m1;rw[if_neg (by omega)];refine⟨_,k1,ne,fun m2 hm2 lm2=>?_⟩;have m3:=lm2 _ (mem2 hj);rw[jlu jp] at m3;rw[if_neg (by omega)];refine⟨_,k1,ne,fun ma hma lma=>?_⟩;have m4:=lma _ (mem2 hk);rw[jpg kp] at m4;rw[if_neg (by omega)];refine⟨n,m,b,g,rs,ps,x,y,z,v,rfl,nm,s1 _ _ hb,hc.keep s1.t,n3,n8,lo,s1 _ _ hg,bx,by',bz,bv,fun L H2 es s2 e2 hP=>?_⟩;have dl:=jgN x y z v ps ps.length;refine⟨L,rfl,⟨_,SqL.of e2⟩,fun acc hacc=>kept (fun s=>decide (s<=0)) e2 hP (by omega) hacc (fun r s H R h=>?_) fun H3 r1 s3 e3 p3=>?_⟩
  ·walk_at "rf";exact h
  refine⟨acc,r1,kLo (sdd x y z v ps ps.length),rfl,⟨e3,p3⟩,a3,a9,fun t1 H4 s4 e4=>?_⟩;have S4:=s3.trans s4;refine⟨L,rfl,⟨_,SqL.of (S4 _ _ e2)⟩,fun acc2 hacc2=>kept (fun s=>decide (0<=s)) (S4 _ _ e2) (hP.keep S4) (by omega) hacc2 (fun r s H R h=>?_) fun H5 r2 s5 e5 p5=>?_⟩
  ·walk_at "rf";exact h
  refine⟨acc2,r2,kHi (sdd x y z v ps ps.length),rfl,⟨e5,p5⟩,b3,b9,fun t2 H6 s6 e6=>⟨by decide,fun t ht=>?_⟩⟩;have s7:=Same.new ht (.tup [V.ref t1,V.ref t2]);have S6:=s4.trans (s5.trans (s6.trans s7));exact q t _ t1 t2 _ _ (s1.trans (s2.trans (S4.trans (s5.trans (s6.trans s7))))) jaf ((s5.trans (s6.trans s7)) _ _ e4) (((p3.rot _).turn _).keep S6.t) (s7 _ _ e6) (((p5.rot _).turn _).keep (s6.trans s7).t)
inductive RR {α:Type}:List α->List α->Prop
 | refl (l:List α):RR l l
 | rot {l m:List α} (k:Nat) (h:RR l m):RR l (m.drop k++m.take k)
 | rev {l m:List α} (h:RR l m):RR l m.reverse
theorem RR.trans {α:Type} {l m n:List α} (h:RR l m) (k:RR m n):RR l n:=by
 induction k with
 | refl=>exact h
 | rot k _ ih=>exact .rot k ih
 | rev _ ih=>exact .rev ih
theorem RR.len {α:Type} {l m:List α} (h:RR l m):m.length=l.length:=by
 induction h with
 | refl=>rfl
 | rot k _ ih=>rw[xad,xaC,xau,<- ih];omega
 | rev _ ih=>rw[xaQ,ih]
theorem RR.mem {α:Type} {l m:List α} (h:RR l m) {x:α}:x∈m↔x∈l:=by
  induction h with
  | refl=>exact Iff.rfl
  | @rot m k _ ih =>
    rw[<- ih,xaz,Or.comm,<- xaz,xaW]
  | rev _ ih=>rw[List.mem_reverse,ih]
theorem jfG {α:Type} (m:List α) (h:m.length<=k):m.drop k++m.take k=m:=by
 rw[xca h,xbd h,List.nil_append]
theorem jlD {α:Type} (m:List α) (h:k<=m.length):(m.drop k++m.take k).drop (m.length-k)++(m.drop k++m.take k).take (m.length-k)=m:=by
 have ld:(m.drop k).length=m.length-k:=xaC;have e1:(m.drop k++m.take k).drop (m.length-k)=m.take k:=by rw[<- ld,xbW]
 have e2:(m.drop k++m.take k).take (m.length-k)=m.drop k:=by rw[<- ld,xbX]
 rw[e1,e2,xaW]
theorem RR.symm {α:Type} {l m:List α} (h:RR l m):RR m l:=by
  induction h with
  | refl=>exact .refl _
  | @rot m k _ ih =>
    by_cases c:k<=m.length
    . have z:=RR.rot (l:=m.drop k++m.take k) (m.length-k) (.refl _)
      rw[jlD m c] at z;exact z.trans ih
    . rw[jfG m (by omega)]
      exact ih
  | @rev m _ ih =>
    have z:=RR.rev (l:=m.reverse) (.refl _);rw[List.reverse_reverse] at z;exact z.trans ih
theorem RR.fm {α β:Type} (f:α->Option β) {l m:List α} (h:RR l m):RR (l.filterMap f) (m.filterMap f):=by
  induction h with
  | refl=>exact .refl _
  | @rot m k _ ih =>
    have z:=RR.rot ((m.take k).filterMap f).length ih;have e:m.filterMap f=(m.take k).filterMap f++(m.drop k).filterMap f:=by rw[<- List.filterMap_append,xaW]
    rw[e,xbW,xbX,<- List.filterMap_append] at z;exact z
  | @rev m _ ih =>
    rw[List.filterMap_reverse];exact .rev ih
theorem RR.map {α β:Type} (f:α->β) {l m:List α} (h:RR l m):RR (l.map f) (m.map f):=by
 induction h with
 | refl=>exact .refl _
 | rot k _ ih=>rw[xaj,xb6,xb7];exact .rot k ih
 | rev _ ih=>rw[List.map_reverse];exact .rev ih
def nxt {α:Type}:List α->α->List (α × α)
 | [],_=>[]
 | [x],a=>[(x,a)]
 | x::y::r,a=>(x,y)::nxt (y::r) a
def prs {α:Type}:List α->List (α × α)
 | []=>[]
 | x::r=>nxt (x::r) x
theorem jfH {α:Type} (a:α):∀(l:List α) (y:α) (r:List α),nxt (l++y::r) a=nxt l y++nxt (y::r) a
  | [],y,r=>rfl
  | [x],y,r=>rfl
  | x :: x' :: l, y, r => by
    show (x,x')::nxt (x'::l++y::r) a=_;rw[jfH a (x'::l) y r];rfl
theorem jdT {α:Type} (m:List α) (k:Nat):prs (m.drop k++m.take k)=(prs m).drop k++(prs m).take k:=by
  by_cases c:k<m.length
  . match k with
    | 0=>simp
    | k + 1 =>
      match m,c with
      | x :: r, c =>
        have c:k<r.length:=by simpa using c
        have e:x::r=(x::r.take k)++r.drop k:=by rw[List.cons_append,xaW]
        cases e2:r.drop k with
        | nil=>have:=congrArg List.length e2;rw[xaC] at this;simp at this;omega
        | cons y s =>
          rw[e2] at e;have l1:(x::r.take k).length=k+1:=by rw[xaw,xau];omega
          have ln:∀(l:List α) (a:α),(nxt l a).length=l.length:=fun l a=>by
            induction l with
            | nil=>rfl
            | cons z t ih => cases t with
              | nil=>rfl
              | cons z' t'=>show (nxt (z'::t') a).length+1=_;rw[ih];rfl
          have d1:(x::r).drop (k+1)=y::s:=by show r.drop k=_;exact e2
          have t1:(x::r).take (k+1)=x::r.take k:=rfl;rw[d1,t1];show nxt (y::s++x::r.take k) y=_;rw[jfH];have p:prs (x::r)=nxt (x::r.take k) y++nxt (y::s) x:=by
            show nxt (x::r) x=_;rw[e,jfH]
          have l2:(nxt (x::r.take k) y).length=k+1:=by rw[ln,l1]
          rw[p,<- l2,xbW,xbX]
  . have lp:(prs m).length=m.length:=by
      have ln:∀(l:List α) (a:α),(nxt l a).length=l.length:=fun l a=>by
        induction l with
        | nil=>rfl
        | cons z t ih => cases t with
          | nil=>rfl
          | cons z' t'=>show (nxt (z'::t') a).length+1=_;rw[ih];rfl
      cases m with
      | nil=>rfl
      | cons x r=>exact ln _ _
    rw[jfG m (by omega),jfG (prs m) (by omega)]
def TT {α:Type} (l:List (α × α)):List (α ⊕ α × α):=l.flatMap fun e=>[.inl e.1,.inr e]
def TB {α:Type} (l:List (α × α)):List (α ⊕ α × α):=l.flatMap fun e=>[.inr e,.inl e.2]
def swE {α:Type} (e:α × α):α × α:=(e.2,e.1)
def swS {α:Type}:α ⊕ α × α->α ⊕ α × α
 | .inl x=>.inl x
 | .inr e=>.inr (swE e)
theorem jmu {α:Type} (l:List (α × α)) (k:Nat):TT (l.drop k++l.take k)=(TT l).drop (2*k)++(TT l).take (2*k):=by
  have h:∀(l:List (α × α)) (k:Nat),TT (l.drop k)=(TT l).drop (2*k)/\TT (l.take k)=(TT l).take (2*k):=fun l=>by
    induction l with
    | nil=>intro k;cases k<;>exact⟨rfl,rfl⟩
    | cons e r ih =>
      intro k;cases k with
      | zero=>exact⟨rfl,rfl⟩
      | succ k =>
        obtain⟨i1,i2⟩:=ih k;refine⟨i1,?_⟩;show .inl e.1::.inr e::TT (r.take k)=_;rw[i2];rfl
  show List.flatMap _ _=_;rw[xb0];exact congr (congrArg _ (h l k).1) (h l k).2
theorem jjQ {α:Type} (a:α):∀(x:α) (r:List α),TT (nxt (x::r) a)++[.inl a]=.inl x::TB (nxt (x::r) a)
  | x,[]=>rfl
  | x, y :: r => by
    show .inl x::.inr (x,y)::(TT (nxt (y::r) a)++[.inl a])=_;rw[jjQ a y r];rfl
theorem jmv {α:Type} (m:List α):RR (TT (prs m)) (TB (prs m)):=by
  cases m with
  | nil=>exact .refl _
  | cons x r =>
    have h:=jjQ x x r;have z:=RR.rot (l:=TT (prs (x::r))) 1 (.refl _);cases e:TT (prs (x::r)) with
    | nil =>
      have e':TT (nxt (x::r) x)=[]:=e;rw[e'] at h;have:=List.tail_eq_of_cons_eq h;show RR [] (TB (nxt (x::r) x));rw[<- this];exact .refl _
    | cons s t =>
      have e':TT (nxt (x::r) x)=s::t:=e;rw[e'] at h;have h1:=List.head_eq_of_cons_eq h;have h2:t++[.inl x]=TB (nxt (x::r) x):=List.tail_eq_of_cons_eq h;rw[e] at z;show RR (s::t) (TB (nxt (x::r) x));rw[<- h2];have e3:(s::t).drop 1++(s::t).take 1=t++[s]:=rfl;subst h1;rw[e3] at z;exact z
theorem jpp {α:Type} (R:List (α × α)):TT ((R.map swE).reverse)=((TB R).map swS).reverse:=by
  induction R with
  | nil=>rfl
  | cons e r ih =>
    show TT ((swE e::r.map swE).reverse)=_;rw[xaP];show List.flatMap _ _=_;rw[xb0];show TT ((r.map swE).reverse)++[.inl e.2,.inr (swE e)]=_;rw[ih];show _=(.inr (swE e)::.inl e.2::(TB r).map swS).reverse;rw[xaP,xaP,xbu];rfl
def op {α:Type}:List α->List (α × α)
 | []=>[]
 | [_]=>[]
 | x::y::r=>(x,y)::op (y::r)
theorem jhD {α:Type} (a:α):∀l:List α,nxt l a=op (l++[a])
  | []=>rfl
  | [x]=>rfl
  | x :: y :: r => by
    show (x,y)::nxt (y::r) a=(x,y)::op (y::r++[a]);rw[jhD a (y::r)]
theorem jgO {α:Type} (z a:α):∀l:List α,op (l++[z]++[a])=op (l++[z])++[(z,a)]
  | []=>rfl
  | [x]=>rfl
  | x :: y :: r => by
    show (x,y)::op (y::r++[z]++[a])=(x,y)::op (y::r++[z])++[(z,a)];rw[jgO z a (y::r)];rfl
theorem jmw {α:Type}:∀l:List α,op l.reverse=((op l).map swE).reverse
  | []=>rfl
  | [x]=>rfl
  | x :: y :: r => by
    rw[xaP,xaP,jgO,<- xaP,jmw (y::r)];show _=((swE (x,y))::(op (y::r)).map swE).reverse;rw[xaP];rfl
theorem jnw {α:Type} (l:List α):∃k,prs l.reverse=((((prs l).drop k++(prs l).take k)).map swE).reverse:=by
  rcases List.eq_nil_or_concat l with rfl | ⟨l',z,rfl⟩
  . exact⟨0,rfl⟩
  . have e1:(l'++[z]).reverse=z::l'.reverse:=by simp
    cases l' with
    | nil=>exact⟨0,rfl⟩
    | cons x r =>
      refine⟨(op (x::r++[z])).length,?_⟩;have p:prs (x::r++[z])=op (x::r++[z])++[(z,x)]:=by
        show nxt (x::r++[z]) x=_;rw[jhD,jgO]
      have p2:prs (z::(x::r).reverse)=op ((z::(x::r++[z])).reverse):=by
        show nxt (z::(x::r).reverse) z=_;rw[jhD]
        congr 1
        simp
      have e0:List.concat (x::r) z=x::r++[z]:=by simp
      rw[e0,e1,p2,p,jmw,xbW,xbX];rfl
theorem jnx {α:Type} {β:Type} (f:α ⊕ α × α->Option β) (hf:∀s,f (swS s)=f s) {l m:List α} (h:RR l m):RR ((TT (prs l)).filterMap f) ((TT (prs m)).filterMap f):=by
  induction h with
  | refl=>exact .refl _
  | @rot m k _ ih =>
    rw[jdT,jmu];exact ih.trans ((RR.rot (2*k) (.refl _)).fm f)
  | @rev m _ ih =>
    obtain⟨k,e⟩:=jnw m;rw[e,<- jdT,jpp];have e2:(((TB (prs (m.drop k++m.take k))).map swS).reverse).filterMap f=((TB (prs (m.drop k++m.take k))).filterMap f).reverse:=by
      rw[List.filterMap_reverse,List.filterMap_map]
      congr 2
      funext s
      exact hf s
    rw[e2];refine ih.trans (.rev ?_);refine RR.trans ?_ ((jmv (m.drop k++m.take k)).fm f);rw[jdT,jmu];exact (RR.rot (2*k) (.refl _)).fm f
def Tp (c:Nat->Tri) (n:Nat):Prop:=∀i j k,i<j->j<k->k<n->0<dt (c i) (c j) (c k)
theorem jcW (a b c:Tri):dt a b c=dt b c a:=by
 unfold dt jbK;grind
theorem jcX (a b:Tri):dt a a b=0/\dt a b b=0/\dt a b a=0:=by
 unfold dt jbK;refine⟨?_,?_,?_⟩<;>grind
def jfa (a:Int) (p:Tri) (b:Int) (q:Tri):Tri:=⟨a*p.x+b*q.x,a*p.y+b*q.y,a*p.z+b*q.z⟩
theorem jgq (x y p q:Tri) (a b:Int):dt x y (jfa a p b q)=a*dt x y p+b*dt x y q:=by
 unfold jfa dt jbK;grind
theorem jjR (x y p q:Tri) (a b:Int):dt (jfa a p b q) x y=a*dt p x y+b*dt q x y:=by
 unfold jfa dt jbK;grind
theorem jgP (x y p q:Tri) (a b:Int):dt x (jfa a p b q) y=a*dt x p y+b*dt x q y:=by
 unfold jfa dt jbK;grind
theorem dt8 (p1 q1 p2 q2 p3 q3:Tri) (a1 b1 a2 b2 a3 b3:Int):dt (jfa a1 p1 b1 q1) (jfa a2 p2 b2 q2) (jfa a3 p3 b3 q3) =
  a1*(a2*(a3*dt p1 p2 p3)+a2*(b3*dt p1 p2 q3)+(b2*(a3*dt p1 q2 p3)+b2*(b3*dt p1 q2 q3)))+b1*(a2*(a3*dt q1 p2 p3)+a2*(b3*dt q1 p2 q3)+(b2*(a3*dt q1 q2 p3)+b2*(b3*dt q1 q2 q3))):=by
 rw[jjR,jgP,jgP,jgq,jgq,jgq,jgq];grind
def cw (c:Nat->Tri) (n k:Nat):Tri:=c (k % n)
theorem cw_lt {c:Nat->Tri} (h:k<n):cw c n k=c k:=by unfold cw;rw[xah h]
theorem cw_n {c:Nat->Tri} :cw c n n=c 0:=by unfold cw;rw[xbk]
theorem D_p {c:Nat->Tri} (h:Tp c n) (ij:i<j) (jk:j<k) (kn:k<=n) (w:¬(i=0/\k=n)):0<dt (cw c n i) (cw c n j) (cw c n k):=by
 rw[cw_lt (show i<n by omega),cw_lt (show j<n by omega)];by_cases e:k=n
 ·subst e;rw[cw_n,<- jcW];exact h 0 i j (by omega) ij (by omega)
 ·rw[cw_lt (show k<n by omega)];exact h i j k ij jk (by omega)
theorem D_n {c:Nat->Tri} (h:Tp c n) (ij:i<=j) (jk:j<=k) (kn:k<=n):0<=dt (cw c n i) (cw c n j) (cw c n k):=by
 by_cases e1:i=j
 ·subst e1;rw[(jcX _ _).1];exact xbl _
 ·by_cases e2:j=k
  ·subst e2;rw[(jcX _ _).2.1];exact xbl _
  ·by_cases w:i=0/\k=n
   ·obtain⟨rfl,rfl⟩:=w;have z:cw c k k=cw c k 0:=by unfold cw;rw[xbk,Nat.zero_mod]
    rw[z,(jcX _ _).2.2];exact xbl _
   ·exact xbJ (D_p h (by omega) (by omega) kn w)
theorem jcY {b:Int} (ha:0<=a) (hb:0<=b) (hc:0<=c) (h:a=0\/b=0\/c=0\/0<=d):0<=a*(b*(c*d)):=by
 rcases h with rfl | rfl | rfl | h
 ·rw[xbg];exact xbl _
 ·rw[xbg,xbj];exact xbl _
 ·rw[xbg,xbj,xbj];exact xbl _
 ·exact xaJ ha (xaJ hb (xaJ hc h))
theorem jgr {b:Int} (ha:0<a) (hb:0<b) (hc:0<c) (h:0<d):0<a*(b*(c*d)):=xaq ha (xaq hb (xaq hc h))
structure On (c:Nat->Tri) (n:Nat) (i:Nat) (e:Bool) (v:Tri):Prop where
 lt:i<n
 is:∃a b:Int,v=jfa a (cw c n i) b (cw c n (i+1))/\0<a/\(e=false->b=0)/\(e=true->0<b)
theorem On.tri {c:Nat->Tri} {e f g:Bool} {u w:Tri} (n3:3<=n) (h:Tp c n) (hu:On c n i e u) (hv:On c n j f v) (hw:On c n k g w)
  (ij:i<j\/(i=j/\e=false/\f=true)) (jk:j<k\/(j=k/\f=false/\g=true)) (b1:¬(i=j/\k=j+1/\e=false/\f=true/\g=false)) (b2:¬(i=0/\j=n-1/\k=n-1/\e=false/\f=false/\g=true)):0<dt u v w:=by
 obtain⟨hi,x1,y1,rfl,p1,z1,s1⟩:=hu;obtain⟨hj,x2,y2,rfl,p2,z2,s2⟩:=hv;obtain⟨hk,x3,y3,rfl,p3,z3,s3⟩:=hw;have q1:0<=y1:=by cases e with | false=>rw[z1 rfl];exact xbl _ | true=>have:=s1 rfl;omega
 have q2:0<=y2:=by cases f with | false=>rw[z2 rfl];exact xbl _ | true=>have:=s2 rfl;omega
 have q3:0<=y3:=by cases g with | false=>rw[z3 rfl];exact xbl _ | true=>have:=s3 rfl;omega
 have N:∀{a b d:Nat},a<=b->b<=d->d<=n->0<=dt (cw c n a) (cw c n b) (cw c n d):=fun h1 h2 h3=>D_n h h1 h2 h3;have ij':i<j\/y1=0:=by
  rcases ij with r | ⟨r1,r2,r3⟩
  ·exact .inl r
  ·exact .inr (z1 r2)
 have ij0:i<=j:=ij.elim xa1 fun r=>xco r.1;have jk':j<k\/y2=0:=by
  rcases jk with r | ⟨r1,r2,r3⟩
  ·exact .inl r
  ·exact .inr (z2 r2)
 have jk0:j<=k:=jk.elim xa1 fun r=>xco r.1;rw[dt8];have t1:0<=x1*(x2*(x3*dt (cw c n i) (cw c n j) (cw c n k))):=jcY (by omega) (by omega) (by omega) (.inr (.inr (.inr (N ij0 jk0 (by omega)))));have t2:0<=x1*(x2*(y3*dt (cw c n i) (cw c n j) (cw c n (k+1)))):=jcY (by omega) (by omega) q3 (.inr (.inr (.inr (N ij0 (by omega) (by omega)))));have t3:0<=x1*(y2*(x3*dt (cw c n i) (cw c n (j+1)) (cw c n k))):=jcY (by omega) q2 (by omega) (by
  rcases jk' with r | r
  ·exact .inr (.inr (.inr (N (by omega) (by omega) (by omega))))
  ·exact .inr (.inl r))
 have t4:0<=x1*(y2*(y3*dt (cw c n i) (cw c n (j+1)) (cw c n (k+1)))):=jcY (by omega) q2 q3 (.inr (.inr (.inr (N (by omega) (by omega) (by omega)))));have t5:0<=y1*(x2*(x3*dt (cw c n (i+1)) (cw c n j) (cw c n k))):=jcY q1 (by omega) (by omega) (by
  rcases ij' with r | r
  ·exact .inr (.inr (.inr (N (by omega) (by omega) (by omega))))
  ·exact .inl r)
 have t6:0<=y1*(x2*(y3*dt (cw c n (i+1)) (cw c n j) (cw c n (k+1)))):=jcY q1 (by omega) q3 (by
  rcases ij' with r | r
  ·exact .inr (.inr (.inr (N (by omega) (by omega) (by omega))))
  ·exact .inl r)
 have t7:0<=y1*(y2*(x3*dt (cw c n (i+1)) (cw c n (j+1)) (cw c n k))):=jcY q1 q2 (by omega) (by
  rcases jk' with r | r
  ·exact .inr (.inr (.inr (N (by omega) (by omega) (by omega))))
  ·exact .inr (.inl r))
 have t8:0<=y1*(y2*(y3*dt (cw c n (i+1)) (cw c n (j+1)) (cw c n (k+1)))):=jcY q1 q2 q3 (.inr (.inr (.inr (N (by omega) (by omega) (by omega)))));have P:∀{a b d:Nat},a<b->b<d->d<=n->¬(a=0/\d=n)->0<dt (cw c n a) (cw c n b) (cw c n d):=fun h1 h2 h3 h4=>D_p h h1 h2 h3 h4;have S:0<x1*(x2*(x3*dt (cw c n i) (cw c n j) (cw c n k)))\/0<x1*(x2*(y3*dt (cw c n i) (cw c n j) (cw c n (k+1))))\/0<x1*(y2*(x3*dt (cw c n i) (cw c n (j+1)) (cw c n k)))\/0<x1*(y2*(y3*dt (cw c n i) (cw c n (j+1)) (cw c n (k+1))))\/0<y1*(x2*(y3*dt (cw c n (i+1)) (cw c n j) (cw c n (k+1)))):=by
  by_cases c1:i<j
  ·by_cases c2:j<k
   ·exact .inl (jgr p1 p2 p3 (P c1 c2 (by omega) (by omega)))
   ·obtain⟨r1,r2,r3⟩:=jk.resolve_left c2;by_cases c3:i=0/\k+1=n
    ·cases e with
     | false=>exact absurd ⟨c3.1,by omega,by omega,rfl,r2,r3⟩ b2
     | true=>exact .inr (.inr (.inr (.inr (jgr (s1 rfl) p2 (s3 r3) (P (by omega) (by omega) (by omega) (by omega))))))
    ·exact .inr (.inl (jgr p1 p2 (s3 r3) (P c1 (by omega) (by omega) c3)))
  ·obtain⟨r1,r2,r3⟩:=ij.resolve_left c1;have c2:j<k:=by
    rcases jk with r | ⟨_,r,_⟩
    ·exact r
    ·rw[r3] at r;cases r
   by_cases c4:j+1<k
   ·exact .inr (.inr (.inl (jgr p1 (s2 r3) p3 (P (by omega) c4 (by omega) (by omega)))))
   ·cases g with
    | false=>exact absurd ⟨r1,by omega,r2,r3,rfl⟩ b1
    | true=>exact .inr (.inr (.inr (.inl (jgr p1 (s2 r3) (s3 rfl) (P (by omega) (by omega) (by omega) (by omega))))))
 rw[xcl,xcl,xcl,xcl,xcl,xcl];omega
def kp (H:Nat->Int) (n p:Nat):Bool:=if p % 2=0 then decide (0<=H (p / 2)) else decide (H (p / 2)*H ((p / 2+1) % n)<0)
def xpt (c:Nat->Tri) (H:Nat->Int) (n i:Nat):Tri:=jfa (ab (H ((i+1) % n))) (c i) (ab (H i)) (c ((i+1) % n))
def el (c:Nat->Tri) (H:Nat->Int) (n p:Nat):Tri:=if p % 2=0 then c (p / 2) else xpt c H n (p / 2)
def clp (H:Nat->Int) (n:Nat):List Nat:=(List.range (2*n)).filter (kp H n)
def clip (c:Nat->Tri) (H:Nat->Int) (n i:Nat):Tri:=el c H n ((clp H n).getD i 0)
theorem jlE (p q:Tri):p=jfa 1 p 0 q:=by
 unfold jfa;simp
theorem jdg {b:Int} (h:a*b<0):a≠0/\b≠0/\¬(0<=a/\0<=b)/\¬(a<=0/\b<=0):=by
 refine⟨fun e=>?_,fun e=>?_,fun e=>?_,fun e=>?_⟩
 ·rw[e,xbg] at h;omega
 ·rw[e,xbj] at h;omega
 ·have:=xaJ e.1 e.2;omega
 ·have:=Int.mul_nonneg_of_nonpos_of_nonpos e.1 e.2;omega
theorem jbJ {n:Int} (h:n≠0):0<ab n:=by
 unfold ab;split<;>omega
theorem jny {c:Nat->Tri} {H:Nat->Int} {p:Nat} (hp:p<2*n) (h:p % 2=0\/H (p / 2)*H ((p / 2+1) % n)<0):On c n (p / 2) (decide (p % 2=1)) (el c H n p):=by
 have hl:p / 2<n:=by omega
 refine⟨hl,?_⟩;unfold el;by_cases e:p % 2=0
 ·rw[if_pos e,decide_eq_false (by omega),cw_lt hl];exact⟨1,0,jlE _ _,by decide,(fun _=>rfl),(fun h=>by cases h)⟩
 ·rw[if_neg e,decide_eq_true (by omega),cw_lt hl];obtain⟨h1,h2,_,_⟩:=jdg (h.resolve_left e);exact⟨_,_,rfl,jbJ h2,(fun h=>by cases h),fun _=>jbJ h1⟩
theorem clp_mem {H:Nat->Int} {p:Nat}:p∈clp H n↔p<2*n/\kp H n p=true:=by
 unfold clp;rw[xbw,xaY]
theorem jfb (H:Nat->Int) (n:Nat):(clp H n).Pairwise (· < ·):=xb9.sublist List.filter_sublist
theorem jfI {l:List Nat} (h:i<l.length):l.getD i 0∈l:=by
 rw[xac,xab h];exact xa2 h
theorem jjS {l:List Nat} (hs:l.Pairwise (· < ·)) (ij:i<j) (hj:j<l.length):l.getD i 0<l.getD j 0:=by
 have z:=List.pairwise_iff_getElem.mp hs i j (by omega) hj ij;rw[xac,xac,xab (by omega),xab hj];exact z
theorem jnz {H:Nat->Int} {p:Nat} (h:kp H n p=true):(p % 2=0/\0<=H (p / 2))\/(p % 2=1/\H (p / 2)*H ((p / 2+1) % n)<0):=by
 unfold kp at h;by_cases e:p % 2=0
 ·rw[if_pos e] at h;exact .inl ⟨e,of_decide_eq_true h⟩
 ·rw[if_neg e] at h;exact .inr ⟨by omega,of_decide_eq_true h⟩
theorem jnA {c:Nat->Tri} {H:Nat->Int} (n3:3<=n) (h:Tp c n):Tp (clip c H n) (clp H n).length:=by
 intro i j k ij jk kn;have m1:=clp_mem.mp (jfI (l:=clp H n) (i:=i) (by omega));have m2:=clp_mem.mp (jfI (l:=clp H n) (i:=j) (by omega));have m3:=clp_mem.mp (jfI (l:=clp H n) (i:=k) kn);have o1:=jjS (jfb H n) ij (by omega);have o2:=jjS (jfb H n) jk kn;unfold clip;generalize (clp H n).getD i 0=p at *
 generalize (clp H n).getD j 0=q at *
 generalize (clp H n).getD k 0=r at *
 have kp1:=jnz m1.2;have kp2:=jnz m2.2;have kp3:=jnz m3.2;have on1:=jny (c:=c) (H:=H) m1.1 (by rcases kp1 with r | r;exact .inl r.1;exact .inr r.2);have on2:=jny (c:=c) (H:=H) m2.1 (by rcases kp2 with r | r;exact .inl r.1;exact .inr r.2);have on3:=jny (c:=c) (H:=H) m3.1 (by rcases kp3 with r | r;exact .inl r.1;exact .inr r.2);refine On.tri n3 h on1 on2 on3 ?_ ?_ ?_ ?_
 ·by_cases e:p / 2<q / 2
  ·exact .inl e
  ·exact .inr ⟨by omega,decide_eq_false (by omega),decide_eq_true (by omega)⟩
 ·by_cases e:q / 2<r / 2
  ·exact .inl e
  ·exact .inr ⟨by omega,decide_eq_false (by omega),decide_eq_true (by omega)⟩
 ·rintro⟨e1,e2,e3,e4,e5⟩;have f3:=of_decide_eq_false e3;have f4:=of_decide_eq_true e4;have f5:=of_decide_eq_false e5;rcases kp1 with a1 | a1
  ·rcases kp2 with a2 | a2
   ·omega
   ·rcases kp3 with a3 | a3
    ·have z:=(jdg a2.2).2.2.1;have em:(q / 2+1) % n=r / 2:=by rw[<- e2];exact xah (by omega)
     rw[em,<- e1] at z;exact z ⟨a1.2,a3.2⟩
    ·omega
  ·omega
 ·rintro⟨e1,e2,e3,e4,e5,e6⟩;have f4:=of_decide_eq_false e4;have f5:=of_decide_eq_false e5;have f6:=of_decide_eq_true e6;rcases kp1 with a1 | a1
  ·rcases kp2 with a2 | a2
   ·rcases kp3 with a3 | a3
    ·omega
    ·have z:=(jdg a3.2).2.2.1;have em:(r / 2+1) % n=0:=by rw[e3,show n-1+1=n by omega,xbk]
     rw[em,e3] at z;rw[e1] at a1;rw[e2] at a2;exact z ⟨a2.2,a1.2⟩
   ·omega
  ·omega
theorem jjT:∀{l:List Nat} {a b c:Nat},a∈l->b∈l->c∈l->a≠b->b≠c->a≠c->3<=l.length
  | [],_,_,_,h,_,_,_,_,_=>nomatch h
  | [x], a, b, c, h1, h2, h3, n1, n2, n3 => by
    simp at h1 h2;omega
  | [x, y], a, b, c, h1, h2, h3, n1, n2, n3 => by
    simp at h1 h2 h3;rcases h1 with rfl | rfl<;>rcases h2 with rfl | rfl<;>rcases h3 with rfl | rfl<;>first | exact absurd rfl n1 | exact absurd rfl n2 | exact absurd rfl n3
  | x :: y :: z :: l, _, _, _, _, _, _, _, _, _ => by
    simp
theorem jlF {H:Nat->Int} (n3:3<=n) (hi:i<n) (hp:0<H i):3<=(clp H n).length:=by
 have md:∀a,a % n<n:=fun a=>xaL _ (by omega);have ev:∀{k},k<n->0<=H k->2*k∈clp H n:=fun {k} hk h=>clp_mem.mpr ⟨by omega,by
  unfold kp;rw[if_pos (by omega),show 2*k / 2=k by omega];exact decide_eq_true h⟩
 have od:∀{k},k<n->H k*H ((k+1) % n)<0->2*k+1∈clp H n:=fun {k} hk h=>clp_mem.mpr ⟨by omega,by
  unfold kp;rw[if_neg (by omega),show (2*k+1) / 2=k by omega];exact decide_eq_true h⟩
 have A:=ev hi (by omega);have e1:(i+1) % n=if i+1=n then 0 else i+1:=by
  split
  ·rename_i e
   rw[e,xbk]
  ·exact xah (by omega)
 have e2:(i+(n-1)) % n=if i=0 then n-1 else i-1:=by
  split
  ·rename_i e
   rw[e,xbC];exact xah (by omega)
  ·rw[show i+(n-1)=i-1+n by omega,xa7];exact xah (by omega)
 have e3:((i+(n-1)) % n+1) % n=i:=by
  rw[e2];split
  ·rename_i e
   rw[show n-1+1=n by omega,xbk,e]
  ·rw[show i-1+1=i by omega];exact xah hi
 have B:∃p,p∈clp H n/\(p=2*((i+1) % n)\/p=2*i+1):=by
  by_cases c:0<=H ((i+1) % n)
  ·exact⟨_,ev (md _) c,.inl rfl⟩
  ·exact⟨_,od hi (xaA hp (by omega)),.inr rfl⟩
 have C:∃p,p∈clp H n/\(p=2*((i+(n-1)) % n)\/p=2*((i+(n-1)) % n)+1):=by
  by_cases c:0<=H ((i+(n-1)) % n)
  ·exact⟨_,ev (md _) c,.inl rfl⟩
  ·exact⟨_,od (md _) (by rw[e3];exact xa0 (by omega) hp),.inr rfl⟩
 obtain⟨p,hp1,hp2⟩:=B;obtain⟨q,hq1,hq2⟩:=C;rw[e1] at hp2;rw[e2] at hq2;refine jjT A hp1 hq1 ?_ ?_ ?_<;>(split at hp2<;>split at hq2<;>omega)
def jaG (A B C:Int) (v:Tri):Int:=A*v.x+B*v.y+C*v.z
theorem jnB (A B C:Int) (a b c d:Tri):dt b c d*jaG A B C a+dt d a b*jaG A B C c=dt c d a*jaG A B C b+dt a b c*jaG A B C d:=by
 unfold dt jbK jaG;grind
theorem jpq {c:Nat->Tri} {l:Nat} {C:Int} (h:Tp c n) (ij:i<j) (jk:j<k) (kl:k<l) (ln:l<n) :
  ¬(0<jaG A B C (c i)/\jaG A B C (c j)<0/\0<jaG A B C (c k)/\jaG A B C (c l)<0)/\¬(jaG A B C (c i)<0/\0<jaG A B C (c j)/\jaG A B C (c k)<0/\0<jaG A B C (c l)):=by
 have e:=jnB A B C (c i) (c j) (c k) (c l);have p1:=h j k l jk kl ln;have p2:0<dt (c l) (c i) (c j):=by rw[jcW];exact h i j l ij (by omega) ln
 have p3:0<dt (c k) (c l) (c i):=by rw[<- jcW];exact h i k l (by omega) kl ln
 have p4:=h i j k ij jk (by omega);constructor
 ·rintro⟨h1,h2,h3,h4⟩;have q1:=xaq p1 h1;have q2:=xaq p2 h3;have q3:=xaA p3 h2;have q4:=xaA p4 h4;omega
 ·rintro⟨h1,h2,h3,h4⟩;have q1:=xaA p1 h1;have q2:=xaA p2 h3;have q3:=xaq p3 h2;have q4:=xaq p4 h4;omega
theorem opp_iff {b:Int}:a*b<0↔(0<a/\b<0)\/(a<0/\0<b):=by
 constructor
 ·intro h;obtain⟨h1,h2,h3,h4⟩:=jdg h;omega
 ·rintro (⟨h1,h2⟩ | ⟨h1,h2⟩)
  ·exact xaA h1 h2
  ·exact xa0 h1 h2
theorem jjU {c:Nat->Tri} {C:Int} (h:Tp c n) (ij:i<j) (jk:j<k) (kn:k<n)
  (h1:jaG A B C (c i)*jaG A B C (c ((i+1) % n))<0) (h2:jaG A B C (c j)*jaG A B C (c ((j+1) % n))<0) (h3:jaG A B C (c k)*jaG A B C (c ((k+1) % n))<0):False:=by
 have e1:(i+1) % n=i+1:=xah (by omega);have e2:(j+1) % n=j+1:=xah (by omega);rw[e1] at h1;rw[e2] at h2;have N:∀{a b d e:Nat},a<b->b<d->d<e->e<n->¬(0<jaG A B C (c a)/\jaG A B C (c b)<0/\0<jaG A B C (c d)/\jaG A B C (c e)<0)/\¬(jaG A B C (c a)<0/\0<jaG A B C (c b)/\jaG A B C (c d)<0/\0<jaG A B C (c e)):=fun q1 q2 q3 q4=>jpq h q1 q2 q3 q4;have d1:i+1=j\/i+1<j:=by omega
 have d2:j+1=k\/j+1<k:=by omega
 by_cases w:k+1<n
 ·rw[xah w] at h3;rcases opp_iff.mp h1 with a1 | a1<;>rcases opp_iff.mp h2 with a2 | a2<;>rcases opp_iff.mp h3 with a3 | a3
  all_goals first
   | (have z:=N (a:=i) (b:=i+1) (d:=j) (e:=j+1) (by omega) (by rcases d1 with r | r;(subst r;omega);exact r) (by omega) (by omega);(first | exact z.1 ⟨a1.1,a1.2,a2.1,a2.2⟩ | exact z.2 ⟨a1.1,a1.2,a2.1,a2.2⟩))
   | (have z:=N (a:=j) (b:=j+1) (d:=k) (e:=k+1) (by omega) (by rcases d2 with r | r;(subst r;omega);exact r) (by omega) (by omega);(first | exact z.1 ⟨a2.1,a2.2,a3.1,a3.2⟩ | exact z.2 ⟨a2.1,a2.2,a3.1,a3.2⟩))
   | (have z:=N (a:=i) (b:=i+1) (d:=k) (e:=k+1) (by omega) (by omega) (by omega) (by omega);(first | exact z.1 ⟨a1.1,a1.2,a3.1,a3.2⟩ | exact z.2 ⟨a1.1,a1.2,a3.1,a3.2⟩))
 ·have ek:k=n-1:=by omega
  have e3:(k+1) % n=0:=by rw[show k+1=n by omega,xbk]
  rw[e3] at h3;rcases opp_iff.mp h1 with a1 | a1<;>rcases opp_iff.mp h2 with a2 | a2<;>rcases opp_iff.mp h3 with a3 | a3
  all_goals first
   | (have z:=N (a:=i) (b:=i+1) (d:=j) (e:=j+1) (by omega) (by rcases d1 with r | r;(subst r;omega);exact r) (by omega) (by omega);(first | exact z.1 ⟨a1.1,a1.2,a2.1,a2.2⟩ | exact z.2 ⟨a1.1,a1.2,a2.1,a2.2⟩))
   | (have z:=N (a:=0) (b:=j) (d:=j+1) (e:=k) (by omega) (by omega) (by rcases d2 with r | r;(subst r;omega);exact r) (by omega);(first | exact z.1 ⟨a3.2,a2.1,a2.2,a3.1⟩ | exact z.2 ⟨a3.2,a2.1,a2.2,a3.1⟩))
   | (have z:=N (a:=0) (b:=i) (d:=i+1) (e:=k) (by rcases Nat.eq_zero_or_pos i with r | r;(subst r;omega);exact r) (by omega) (by omega) (by omega);(first | exact z.1 ⟨a3.2,a1.1,a1.2,a3.1⟩ | exact z.2 ⟨a3.2,a1.1,a1.2,a3.1⟩))
theorem jfc (P:Nat->Bool):∀m,((List.range (2*m)).filter P).length=((List.range m).filter fun i=>P (2*i)).length+((List.range m).filter fun i=>P (2*i+1)).length
  | 0=>rfl
  | m + 1 => by
    have ih:=jfc P m;rw[show 2*(m+1)=2*m+1+1 by omega,xaM,xaM,xaM (n:=m),xaB,xaB,xaB,xaB,xad,xad,xad,xad,ih];have s:∀(Q:Nat->Bool) (x:Nat),([x].filter Q).length=if Q x=true then 1 else 0:=fun Q x=>by
      cases h:Q x with
      | true=>rw[xaT h,if_pos rfl];rfl
      | false=>rw[xa8 (by rw[h];decide),if_neg (by decide)];rfl
    rw[s,s,s (fun i=>P (2*i)),s (fun i=>P (2*i+1))];omega
theorem jlG {l:List Nat} (hs:l.Pairwise (· < ·)) (h:∀a b c,a∈l->b∈l->c∈l->a<b->b<c->False):l.length<=2:=by
  match l,hs,h with
  | [],_,_=>exact xaG _
  | [_],_,_=>show 1<=2;decide
  | [_,_],_,_=>show 2<=2;decide
  | x :: y :: z :: l, hs, h =>
    have q1:=xbA.mp hs;have q2:=xbA.mp q1.2;exact (h x y z (by simp) (by simp) (by simp) (q1.1 y (by simp)) (q2.1 z (by simp))).elim
theorem jjV {P:Nat->Bool} (hi:i<n) (h:P i=false):((List.range n).filter P).length<n:=by
 have z:((List.range n).filter P).length<(List.range n).length:=by
  refine List.length_filter_lt_length_iff_exists.mpr ⟨i,xaY.mpr hi,?_⟩;rw[h];decide
 rw[xaV] at z;exact z
theorem jjW {c:Nat->Tri} {C:Int} (h:Tp c n):(clp (fun i=>jaG A B C (c i)) n).length<=n+1:=by
 unfold clp;rw[jfc];have ev:∀i,kp (fun i=>jaG A B C (c i)) n (2*i)=decide (0<=jaG A B C (c i)):=fun i=>by
  unfold kp;rw[if_pos (by omega),show 2*i / 2=i by omega]
 have od:∀i,kp (fun i=>jaG A B C (c i)) n (2*i+1)=decide (jaG A B C (c i)*jaG A B C (c ((i+1) % n))<0):=fun i=>by
  unfold kp;rw[if_neg (by omega),show (2*i+1) / 2=i by omega]
 have l1:((List.range n).filter fun i=>kp (fun i=>jaG A B C (c i)) n (2*i)).length<=n:=by
  have z:=xbQ (fun i=>kp (fun i=>jaG A B C (c i)) n (2*i)) (List.range n);rw[xaV] at z;exact z
 have l2:((List.range n).filter fun i=>kp (fun i=>jaG A B C (c i)) n (2*i+1)).length<=2:=by
  refine jlG (xb9.sublist List.filter_sublist) fun a b d ha hb hd ab bd=>?_;have ha:=xbw.mp ha;have hb:=xbw.mp hb;have hd:=xbw.mp hd;rw[od] at ha hb hd;exact jjU h ab bd (xaY.mp hd.1) (of_decide_eq_true ha.2) (of_decide_eq_true hb.2) (of_decide_eq_true hd.2)
 by_cases e:((List.range n).filter fun i=>kp (fun i=>jaG A B C (c i)) n (2*i+1))=[]
 ·rw[e];show _+0<=n+1;omega
 ·obtain⟨x,hx⟩:=List.exists_mem_of_ne_nil _ e;have hx:=xbw.mp hx;rw[od] at hx;have hn:=xaY.mp hx.1;have z:=opp_iff.mp (of_decide_eq_true hx.2);have l3:((List.range n).filter fun i=>kp (fun i=>jaG A B C (c i)) n (2*i)).length<n:=by
   rcases z with r | r
   ·exact jjV (xaL (x+1) (by omega)) (by rw[ev];exact decide_eq_false (by omega))
   ·exact jjV hn (by rw[ev];exact decide_eq_false (by omega))
  omega
def rs:List Rat->Rat
 | []=>0
 | x::l=>x+rs l
theorem jmx:∀l m:List Rat,rs (l++m)=rs l+rs m
  | [],m=>by show rs m=0+rs m;grind
  | x :: l, m => by
    show x+rs (l++m)=x+rs l+rs m;rw[jmx l m];grind
theorem jjX {α:Type} (a:α):∀l:List α,(nxt l a).length=l.length
  | []=>rfl
  | [_]=>rfl
  | x :: y :: r => by
    show (nxt (y::r) a).length+1=_;rw[jjX a (y::r)];rfl
theorem jjY {α:Type} (d a:α):∀(l:List α) (i:Nat),i<l.length->(nxt l a)[i]?=some (l.getD i d,if i+1<l.length then l.getD (i+1) d else a)
  | [],i,h=>by simp at h
  | [x], i, h => by
    have e:i=0:=by simpa using h
    subst e;rfl
  | x :: y :: r, 0, h => by
    show some (x,y)=_;rw[if_pos (by simp)];rfl
  | x :: y :: r, i + 1, h => by
    have h':i<(y::r).length:=by simpa using h
    show (nxt (y::r) a)[i]?=_;rw[jjY d a (y::r) i h'];have e:((i+1+1<(x::y::r).length)↔(i+1<(y::r).length)):=by simp
    simp only[e];rfl
theorem jdU {α:Type} (l:List α):(prs l).length=l.length:=by
 cases l with
 | nil=>rfl
 | cons x r=>exact jjX x (x::r)
theorem jcZ {α:Type} (d:α) {l:List α} (h:i<l.length):(prs l)[i]?=some (l.getD i d,l.getD ((i+1) % l.length) d):=by
  cases l with
  | nil=>simp at h
  | cons x r =>
    show (nxt (x::r) x)[i]?=_;rw[jjY d x (x::r) i h];by_cases c:i+1<(x::r).length
    . rw[if_pos c,xah c]
    . rw[if_neg c,show i+1=(x::r).length by omega,xbk]
      rfl
theorem jmy {α:Type} (d:α) (l:List α):prs l=(List.range l.length).map fun i=>(l.getD i d,l.getD ((i+1) % l.length) d):=by
 refine xbH fun i=>?_;by_cases c:i<l.length
 ·rw[jcZ d c,xaf,List.getElem?_range c];rfl
 ·rw[xaF (by rw[jdU];omega),xaF (by rw[xaa,xaV];omega)]
theorem jpr {α:Type} (d:α) (l:List α):((List.range l.length).map fun i=>(l.getD ((i+(l.length-1)) % l.length) d,l.getD i d))=(prs l).drop (l.length-1)++(prs l).take (l.length-1):=by
  rw[<- jdT,jmy d];have hl:(l.drop (l.length-1)++l.take (l.length-1)).length=l.length:=by
    rw[xad,xaC,xau];omega
  rw[hl];refine xbZ fun i hi=>?_;have hi:=xaY.mp hi;have G:∀j,j<l.length->(l.drop (l.length-1)++l.take (l.length-1)).getD j d=l.getD ((j+(l.length-1)) % l.length) d:=fun j hj=>by
    rw[xac,xac]
    congr 1
    cases j with
    | zero =>
      rw[xaH (by rw[xaC];omega),xb5,xbC,xah (by omega)];rfl
    | succ j =>
      rw[xat (by rw[xaC];omega),xaC,xcv,show j+1-(l.length-(l.length-1))=j by omega,if_pos (by omega),show j+1+(l.length-1)=j+l.length by omega,xa7,xah (by omega)]
  rw[G i hi,G _ (xaL _ (by omega))]
  congr 1
  by_cases c:i+1<l.length
  . rw[xah c,show i+1+(l.length-1)=i+l.length by omega,xa7,xah hi]
  . rw[show i+1=l.length by omega,xbk,xbC,xah (by omega),show i=l.length-1 by omega]
theorem jjZ {α β:Type} (f:α->β) (a:α):∀l:List α,nxt (l.map f) (f a)=(nxt l a).map fun e=>(f e.1,f e.2)
  | []=>rfl
  | [_]=>rfl
  | x :: y :: r => by
    show (f x,f y)::nxt ((y::r).map f) (f a)=_;rw[jjZ f a (y::r)];rfl
theorem jnC {α β:Type} (f:α->β) (l:List α):prs (l.map f)=(prs l).map fun e=>(f e.1,f e.2):=by
 cases l with
 | nil=>rfl
 | cons x r=>exact jjZ f x (x::r)
theorem qnz {i:Int} (h:i≠0):(i:Rat)≠0:=fun e=>h (by exact_mod_cast e)
def t0:Tri:=⟨0,0,0⟩
def tr (vs:List Tri) (i:Nat):Tri:=vs.getD i t0
def TpL (vs:List Tri):Prop:=Tp (tr vs) vs.length
theorem jlH {c d:Nat->Tri} (h:Tp c n) (e:∀i,i<n->d i=c i):Tp d n:=fun i j k ij jk kn=>by
 rw[e i (by omega),e j (by omega),e k kn];exact h i j k ij jk kn
def Prp (u v:Tri):Prop:=∃k m:Int,0<k/\0<m/\k*u.x=m*v.x/\k*u.y=m*v.y/\k*u.z=m*v.z
theorem Prp.refl (u:Tri):Prp u u:=⟨1,1,by decide,by decide,rfl,rfl,rfl⟩
theorem Prp.symm {u:Tri} (h:Prp u v):Prp v u:=by
 obtain⟨k,m,h1,h2,e1,e2,e3⟩:=h;exact⟨m,k,h2,h1,e1.symm,e2.symm,e3.symm⟩
theorem Prp.z {u:Tri} (h:Prp u v) (hu:1<=u.z):1<=v.z:=by
 obtain⟨k,m,h1,h2,e1,e2,e3⟩:=h;have:=xaq h1 (show 0<u.z by omega);rw[e3] at this;have:=xbq this (by omega);omega
theorem jps {a b c a' b' c':Tri} (ha:Prp a a') (hb:Prp b b') (hc:Prp c c') (h:0<dt a b c):0<dt a' b' c':=by
 obtain⟨k1,m1,p1,q1,x1,y1,z1⟩:=ha;obtain⟨k2,m2,p2,q2,x2,y2,z2⟩:=hb;obtain⟨k3,m3,p3,q3,x3,y3,z3⟩:=hc;have e:k1*k2*k3*dt a b c=m1*m2*m3*dt a' b' c':=by
  have s:∀(g1 g2 g3:Int) (u v w:Tri),g1*g2*g3*dt u v w=dt ⟨g1*u.x,g1*u.y,g1*u.z⟩ ⟨g2*v.x,g2*v.y,g2*v.z⟩ ⟨g3*w.x,g3*w.y,g3*w.z⟩:=fun g1 g2 g3 u v w=>by
   unfold dt jbK;grind
  rw[s,s,x1,y1,z1,x2,y2,z2,x3,y3,z3]
 have h1:=xaq (xaq (xaq p1 p2) p3) h;rw[e] at h1;exact xbq h1 (xaq (xaq q1 q2) q3)
inductive PL:List Tri->List Tri->Prop
 | nil:PL [] []
 | cons {u v:Tri} {us vs:List Tri} (h:Prp u v) (t:PL us vs):PL (u::us) (v::vs)
theorem PL.refl:∀l:List Tri,PL l l
 | []=>.nil
 | x::l=>.cons (Prp.refl x) (PL.refl l)
variable {us vs ws:List Tri}
theorem PL.len (h:PL us vs):us.length=vs.length:=by
 induction h with
 | nil=>rfl
 | cons _ _ ih=>rw[xaw,xaw,ih]
theorem PL.app {us' vs':List Tri} (h:PL us vs) (k:PL us' vs'):PL (us++us') (vs++vs'):=by
 induction h with
 | nil=>exact k
 | cons h _ ih=>exact .cons h ih
theorem PL.get (h:PL us vs):∀{i:Nat},i<us.length->Prp (tr us i) (tr vs i):=by
  induction h with
  | nil=>intro i hi;simp at hi
  | cons h _ ih =>
    intro i hi;cases i with
    | zero=>exact h
    | succ i=>exact ih (by simpa using hi)
theorem PL.tp (h:PL us vs) (t:TpL us):TpL vs:=fun i j k ij jk kn=>by
 have l:=h.len;exact jps (h.get (by omega)) (h.get (by omega)) (h.get (by omega)) (t i j k ij jk (by omega))
theorem PL.fm {α:Type} {f g:α->List Tri}:∀{l:List α},(∀a∈l,PL (f a) (g a))->PL (l.flatMap f) (l.flatMap g)
  | [],_=>.nil
  | a :: l, h => by
    rw[xbm,xbm];exact (h a (by simp)).app (PL.fm fun b hb=>h b (xas _ hb))
def xp (h:Tri->Int) (a b:Tri):Tri:=jfa (ab (h b)) a (ab (h a)) b
def jgQ (v:Tri):Tri:=⟨v.x / gl [v.x,v.y,v.z],v.y / gl [v.x,v.y,v.z],v.z / gl [v.x,v.y,v.z]⟩
theorem jlI (hz:1<=v.z):Prp v (jgQ v):=by
 have g0:0<gl [v.x,v.y,v.z]:=jd0 (n:=v.z) (by simp) (by omega);have d:∀n∈[v.x,v.y,v.z],gl [v.x,v.y,v.z]*(n / gl [v.x,v.y,v.z])=n:=fun n hn=>xa9 (jaT hn);refine⟨1,gl [v.x,v.y,v.z],by decide,g0,?_,?_,?_⟩
 ·rw[Int.one_mul];exact (d v.x (by simp)).symm
 ·rw[Int.one_mul];exact (d v.y (by simp)).symm
 ·rw[Int.one_mul];exact (d v.z (by simp)).symm
variable {h:Tri->Int}
theorem xp_z {a b:Tri} (ha:1<=a.z) (hb:1<=b.z) (o:h a*h b<0):1<=(xp h a b).z:=by
 obtain⟨h1,h2,_,_⟩:=jdg o;have p1:=jbJ h1;have p2:=jbJ h2;have q1:=xaq p2 (show 0<a.z by omega);have q2:=xaq p1 (show 0<b.z by omega);show 1<=ab (h b)*a.z+ab (h a)*b.z;omega
def upE (h:Tri->Int) (X:Tri->Tri->Tri) (e:Tri × Tri):List Tri:=(if 0<=h e.1 then [e.1] else [])++(if h e.1*h e.2<0 then [X e.1 e.2] else [])
def upL (h:Tri->Int) (X:Tri->Tri->Tri) (vs:List Tri):List Tri:=(prs vs).flatMap (upE h X)
theorem jhE {α:Type} (P:Nat->Bool) (g:Nat->α):∀m,((List.range (2*m)).filter P).map g=(List.range m).flatMap fun i=>(if P (2*i)=true then [g (2*i)] else [])++(if P (2*i+1)=true then [g (2*i+1)] else [])
  | 0=>rfl
  | m + 1 => by
    have ih:=jhE P g m;have s:∀x:Nat,([x].filter P).map g=if P x=true then [g x] else []:=fun x=>by
      cases h:P x with
      | true=>rw[xaT h,if_pos rfl];rfl
      | false=>rw[xa8 (by rw[h];decide),if_neg (by decide)];rfl
    rw[show 2*(m+1)=2*m+1+1 by omega,xaM,xaM,xaM (n:=m),xaB,xaB,xaj,xaj,ih,s,s,xb0,xbu];simp
theorem jhF (h:Tri->Int) (vs:List Tri):upL h (xp h) vs=(clp (fun i=>h (tr vs i)) vs.length).map (el (tr vs) (fun i=>h (tr vs i)) vs.length):=by
 unfold upL clp;rw[jhE,jmy t0,List.flatMap_map]
 congr 1
 funext i
 have k0:kp (fun i=>h (tr vs i)) vs.length (2*i)=decide (0<=h (tr vs i)):=by
  unfold kp;rw[if_pos (by omega),show 2*i / 2=i by omega]
 have k1:kp (fun i=>h (tr vs i)) vs.length (2*i+1)=decide (h (tr vs i)*h (tr vs ((i+1) % vs.length))<0):=by
  unfold kp;rw[if_neg (by omega),show (2*i+1) / 2=i by omega]
 have e0:el (tr vs) (fun i=>h (tr vs i)) vs.length (2*i)=tr vs i:=by
  unfold el;rw[if_pos (by omega),show 2*i / 2=i by omega]
 have e1:el (tr vs) (fun i=>h (tr vs i)) vs.length (2*i+1)=xp h (tr vs i) (tr vs ((i+1) % vs.length)):=by
  unfold el;rw[if_neg (by omega),show (2*i+1) / 2=i by omega];rfl
 rw[k0,k1,e0,e1];simp only[decide_eq_true_eq];rfl
variable {X:Tri->Tri->Tri}
theorem jnD (hX:∀a b,a∈vs->b∈vs->h a*h b<0->Prp (xp h a b) (X a b)):PL (upL h (xp h) vs) (upL h X vs):=by
 refine PL.fm fun e he=>?_;obtain⟨i,hi⟩:=xbD.mp he;have il:i<vs.length:=by have:=(xag.mp hi).1;rw[jdU] at this;exact this
 rw[jcZ t0 il] at hi;have hm:∀j,j<vs.length->vs.getD j t0∈vs:=fun j hj=>by
  rw[xac,xab hj];exact xa2 hj
 have ee:=Option.some.inj hi;subst ee;refine PL.app (PL.refl _) ?_;by_cases o:h (vs.getD i t0)*h (vs.getD ((i+1) % vs.length) t0)<0
 ·simp only[if_pos o];exact .cons (hX _ _ (hm i il) (hm _ (xaL _ (by omega))) o) .nil
 ·simp only[if_neg o];exact .nil
theorem jpt (n3:3<=vs.length) (t:TpL vs):TpL (upL h (xp h) vs):=by
 have z:=jnA (c:=tr vs) (H:=fun i=>h (tr vs i)) n3 t;have l:(upL h (xp h) vs).length=(clp (fun i=>h (tr vs i)) vs.length).length:=by rw[jhF,xaa]
 unfold TpL;rw[l];refine jlH z fun i hi=>?_;rw[jhF];show ((clp (fun i=>h (tr vs i)) vs.length).map (el (tr vs) (fun i=>h (tr vs i)) vs.length)).getD i t0=el (tr vs) (fun i=>h (tr vs i)) vs.length ((clp (fun i=>h (tr vs i)) vs.length).getD i 0);rw[xac,xaf,xab hi,xac,xab hi];rfl
theorem up_tp (hX:∀a b,a∈vs->b∈vs->h a*h b<0->Prp (xp h a b) (X a b)) (n3:3<=vs.length) (t:TpL vs):TpL (upL h X vs):=(jnD hX).tp (jpt n3 t)
theorem jnE (hX:∀a b,a∈vs->b∈vs->h a*h b<0->Prp (xp h a b) (X a b)) (n3:3<=vs.length) (hi:i<vs.length) (hp:0<h (tr vs i)):3<=(upL h X vs).length:=by
 rw[<- (jnD hX).len,jhF,xaa];exact jlF (H:=fun i=>h (tr vs i)) n3 hi hp
theorem jnF {C:Int} (hX:∀a b,a∈vs->b∈vs->jaG A B C a*jaG A B C b<0->Prp (xp (jaG A B C) a b) (X a b)) (t:TpL vs):(upL (jaG A B C) X vs).length<=vs.length+1:=by
 rw[<- (jnD hX).len,jhF,xaa];exact jjW t
theorem jhG (hv:v∈upL h X vs):(v∈vs/\0<=h v)\/∃a b,a∈vs/\b∈vs/\h a*h b<0/\v=X a b:=by
 obtain⟨e,he,hv⟩:=xbN.mp hv;obtain⟨i,hi⟩:=xbD.mp he;have il:i<vs.length:=by have:=(xag.mp hi).1;rw[jdU] at this;exact this
 rw[jcZ t0 il] at hi;have hm:∀j,j<vs.length->vs.getD j t0∈vs:=fun j hj=>by
  rw[xac,xab hj];exact xa2 hj
 have ee:=Option.some.inj hi;subst ee;rcases xaz.mp hv with h1 | h1
 ·by_cases c:0<=h (vs.getD i t0)
  ·simp only[if_pos c,xam] at h1;subst h1;exact .inl ⟨hm i il,c⟩
  ·simp only[if_neg c] at h1;cases h1
 ·by_cases c:h (vs.getD i t0)*h (vs.getD ((i+1) % vs.length) t0)<0
  ·simp only[if_pos c,xam] at h1;exact .inr ⟨_,_,hm i il,hm _ (xaL _ (by omega)),c,h1⟩
  ·simp only[if_neg c] at h1;cases h1
def Adj {α:Type} (R:α->α->Prop):List α->Prop
 | []=>True
 | [_]=>True
 | a::b::l=>R a b/\Adj R (b::l)
theorem Adj.glue {α:Type} {R:α->α->Prop} {x:α}:∀{l m:List α},Adj R (l++[x])->Adj R (x::m)->Adj R (l++x::m)
 | [],_,_,k=>k
 | [a],_,h,k=>⟨h.1,k⟩
 | a::b::l,m,h,k=>⟨h.1,Adj.glue (l:=b::l) h.2 k⟩
theorem Adj.left {α:Type} {R:α->α->Prop} {x:α}:∀{l m:List α},Adj R (l++x::m)->Adj R (l++[x])
 | [],_,_=>trivial
 | [a],_,h=>⟨h.1,trivial⟩
 | a::b::l,m,h=>⟨h.1,Adj.left (l:=b::l) h.2⟩
theorem Adj.right {α:Type} {R:α->α->Prop} {x:α}:∀{l m:List α},Adj R (l++x::m)->Adj R (x::m)
 | [],_,h=>h
 | [a],_,h=>h.2
 | a::b::l,m,h=>Adj.right (l:=b::l) h.2
theorem Adj.get {α:Type} {R:α->α->Prop}:∀{l:List α},Adj R l->∀(i:Nat) (x y:α),l[i]?=some x->l[i+1]?=some y->R x y
  | [],_,i,x,y,h,_=>by simp at h
  | [a],_,i,x,y,_,h=>by simp at h
  | a :: b :: l, h, 0, x, y, h1, h2 => by
    cases h1;cases h2;exact h.1
  | a::b::l,h,i+1,x,y,h1,h2=>Adj.get (l:=b::l) h.2 i x y h1 h2
def ax (v:Tri):Rat:=(v.x:Rat) / (v.z:Rat)
def ay (v:Tri):Rat:=(v.y:Rat) / (v.z:Rat)
def c2q (a b:Tri):Rat:=ax a*ay b-ay a*ax b
theorem jpu {a b:Tri} (h:Prp a b) (hz:1<=a.z):ax a=ax b/\ay a=ay b:=by
 have hz':=h.z hz;obtain⟨k,m,h1,h2,e1,e2,e3⟩:=h;have z1:=qnz (show a.z≠0 by omega);have z2:=qnz (show b.z≠0 by omega);have z3:=qnz (show k≠0 by omega);have z4:=qnz (show m≠0 by omega);have f1:(k:Rat)*(a.x:Rat)=(m:Rat)*(b.x:Rat):=by exact_mod_cast e1
 have f2:(k:Rat)*(a.y:Rat)=(m:Rat)*(b.y:Rat):=by exact_mod_cast e2
 have f3:(k:Rat)*(a.z:Rat)=(m:Rat)*(b.z:Rat):=by exact_mod_cast e3
 unfold ax ay;have cancel:∀x y:Rat,(k:Rat)*x=(m:Rat)*y->x / (a.z:Rat)=y / (b.z:Rat):=fun x y e=>by
  have e4:x=((m:Rat)*y) / (k:Rat):=by grind
  have e5:(a.z:Rat)=((m:Rat)*(b.z:Rat)) / (k:Rat):=by grind
  rw[e4,e5];grind
 exact⟨cancel _ _ f1,cancel _ _ f2⟩
theorem jdH {l:List Tri} (h:i<l.length):tr l i∈l:=by
 unfold tr;rw[xac,xab h];exact xa2 h
theorem jhH {l:List Tri} (h:v∈l):∃i,i<l.length/\tr l i=v:=by
 obtain⟨i,hi,rfl⟩:=xbF.mp h;refine⟨i,hi,?_⟩;unfold tr;rw[xac,xab hi];rfl
theorem jnG {a b:Tri} (ha:1<=a.z) (hb:1<=b.z) (o:h a*h b<0) (hv:Prp (xp h a b) v):c2q a v+c2q v b=c2q a b:=by
 obtain⟨e1,e2⟩:=jpu hv (xp_z ha hb o);obtain⟨h1,h2,_,_⟩:=jdg o;have p1:=jbJ h1;have p2:=jbJ h2;unfold c2q;rw[<- e1,<- e2];have q1:=xaq p2 (show 0<a.z by omega);have q2:=xaq p1 (show 0<b.z by omega);have z0:=qnz (show ab (h b)*a.z+ab (h a)*b.z≠0 by omega);have z1:=qnz (show a.z≠0 by omega);have z2:=qnz (show b.z≠0 by omega);have u:ax (xp h a b)*((ab (h b):Rat)*(a.z:Rat)+(ab (h a):Rat)*(b.z:Rat))=(ab (h b):Rat)*(a.z:Rat)*ax a+(ab (h a):Rat)*(b.z:Rat)*ax b:=by
  unfold ax xp jfa
  push_cast at z0 |-
  grind
 have w:ay (xp h a b)*((ab (h b):Rat)*(a.z:Rat)+(ab (h a):Rat)*(b.z:Rat))=(ab (h b):Rat)*(a.z:Rat)*ay a+(ab (h a):Rat)*(b.z:Rat)*ay b:=by
  unfold ay xp jfa
  push_cast at z0 |-
  grind
 push_cast at z0
 generalize ax (xp h a b)=X at *
 generalize ay (xp h a b)=Y at *
 generalize ax a=xa at *
 generalize ay a=ya at *
 generalize ax b=xb at *
 generalize ay b=yb at *
 generalize (ab (h b):Rat)*(a.z:Rat)=p at *
 generalize (ab (h a):Rat)*(b.z:Rat)=q at *
 have f:(xa*Y-ya*X+(X*yb-Y*xb))*(p+q)=(xa*yb-ya*xb)*(p+q):=by grind
 grind
def agE (h:Tri->Int) (X:Tri->Tri->Tri) (e:Tri × Tri):List Tri:=e.1::(if h e.1*h e.2<0 then [X e.1 e.2] else [])
def agL (h:Tri->Int) (X:Tri->Tri->Tri) (vs:List Tri):List Tri:=(prs vs).flatMap (agE h X)
theorem jj0 {h:Tri->Int} {X:Tri->Tri->Tri} (k:Tri->Bool) (g:Tri × Tri->List Tri):∀{l:List (Tri × Tri)},(∀e∈l,(agE h X e).filter k=g e)->(l.flatMap (agE h X)).filter k=l.flatMap g
  | [],_=>rfl
  | e :: l, H => by
    rw[xbm,xbm,xaB,H e (by simp),jj0 k g fun a ha=>H a (xas _ ha)]
theorem jdV {e:Tri × Tri} (he:e∈prs vs):e.1∈vs/\e.2∈vs:=by
 obtain⟨i,hi⟩:=xbD.mp he;have il:i<vs.length:=by have:=(xag.mp hi).1;rw[jdU] at this;exact this
 rw[jcZ t0 il] at hi;have ee:=Option.some.inj hi;subst ee;exact⟨jdH il,jdH (xaL _ (by omega))⟩
theorem ag_up (hX:∀a b,a∈vs->b∈vs->h a*h b<0->h (X a b)=0):(agL h X vs).filter (fun p=>decide (0<=h p))=upL h X vs:=by
 refine jj0 _ _ fun e he=>?_;obtain⟨m1,m2⟩:=jdV he;unfold agE upE;have x0:=hX _ _ m1 m2;by_cases o:h e.1*h e.2<0
 ·have x1:=x0 o;by_cases c:0<=h e.1<;>simp [o,c,x1]
 ·by_cases c:0<=h e.1<;>simp [o,c]
theorem jpv {S:Tri->Prop} (hz:∀v,S v->1<=v.z) (hX:∀a b,S a->S b->h a*h b<0->Prp (xp h a b) (X a b)/\h (X a b)=0) {a:Tri} (sa:S a):∀(r:List Tri) (x:Tri),S x->(∀v∈r,S v) ->
    ∃w,(nxt (x::r) a).flatMap (agE h X)=x::w/\Adj (fun x y=>¬(h x<0/\0<h y)/\¬(0<h x/\h y<0)) (x::w++[a])/\rs ((nxt (x::w) a).map fun e=>c2q e.1 e.2)=rs ((nxt (x::r) a).map fun e=>c2q e.1 e.2):=by
  have one:∀x y,S x->S y->Adj (fun x y=>¬(h x<0/\0<h y)/\¬(0<h x/\h y<0)) (agE h X (x,y)++[y])/\rs ((nxt (agE h X (x,y)) y).map fun e=>c2q e.1 e.2)=c2q x y:=fun x y sx sy=>by
    unfold agE;by_cases o:h x*h y<0
    . obtain⟨k1,k2⟩:=hX x y sx sy o
      simp only[if_pos o];refine⟨⟨⟨by omega,by omega⟩,⟨by omega,by omega⟩,trivial⟩,?_⟩;show c2q x (X x y)+(c2q (X x y) y+0)=_;have:=jnG (hz x sx) (hz y sy) o k1;grind
    . simp only[if_neg o]
      refine⟨⟨⟨fun z=>o (opp_iff.mpr (.inr z)),fun z=>o (opp_iff.mpr (.inl z))⟩,trivial⟩,?_⟩;show c2q x y+0=_;grind
  intro r;induction r with
  | nil =>
    intro x sx _;obtain⟨o1,o2⟩:=one x a sx sa;refine⟨if h x*h a<0 then [X x a] else [],?_,o1,?_⟩
    . show agE h X (x,a)++[]=_
      rw[xbx];rfl
    . show _=c2q x a+0
      exact o2.trans (by grind)
  | cons y r ih =>
    intro x sx sr;obtain⟨w,e1,e2,e3⟩:=ih y (sr y (by simp)) fun v hv=>sr v (xas _ hv);obtain⟨o1,o2⟩:=one x y sx (sr y (by simp));refine⟨(if h x*h y<0 then [X x y] else [])++y::w,?_,?_,?_⟩
    . show agE h X (x,y)++(nxt (y::r) a).flatMap (agE h X)=_
      rw[e1];rfl
    . have g:=Adj.glue (l:=agE h X (x,y)) (x:=y) (m:=w++[a]) o1 e2
      have e:x::((if h x*h y<0 then [X x y] else [])++y::w)++[a]=agE h X (x,y)++y::(w++[a]):=by
        unfold agE;simp
      rw[e];exact g
    . have e:x::((if h x*h y < 0 then [X x y] else [])++y::w)=agE h X (x,y)++y::w:=rfl
      rw[e,jfH,xaj,jmx,o2,e3];rfl
theorem jgR {C k m:Int} {u:Tri} (e1:k*u.x=m*v.x) (e2:k*u.y=m*v.y) (e3:k*u.z=m*v.z):k*jaG A B C u=m*jaG A B C v:=by
 unfold jaG;grind
theorem jfJ {C:Int} {u:Tri} (h:Prp u v) (z:jaG A B C u=0):jaG A B C v=0:=by
 obtain⟨k,m,k0,m0,e1,e2,e3⟩:=h;have e:=jgR (A:=A) (B:=B) (C:=C) e1 e2 e3;rw[z,xbj] at e;rcases xaI.mp e.symm with r | r
 ·omega
 ·exact r
theorem jeg {α β:Type} {f g:α->List β}:∀{l:List α},(∀a∈l,f a=g a)->l.flatMap f=l.flatMap g
 | [],_=>rfl
 | a::l,h=>by rw[xbm,xbm,h a (by simp),jeg fun b hb=>h b (xas _ hb)]
theorem jdW {α β:Type} {f g:α->Option β}:∀{l:List α},(∀a∈l,f a=g a)->l.filterMap f=l.filterMap g
 | [],_=>rfl
 | a::l,h=>by rw[xbK,xbK,h a (by simp),jdW fun b hb=>h b (xas _ hb)]
theorem jfK (h:pl4 p=pl4 q):p=q:=by
 unfold pl4 at h;injection h with h1 h
 injection h with h2 h
 injection h with h3 h
 injection h with h4 _
 cases p;cases q
 simp_all
def jlJ (Z:Sht) (v:Tri):List Int:=[rX Z v,rY Z v,rZ Z v,rW Z v]
theorem jgS (Z:Sht) (v:Tri):pl4 (spt Z v)=low (jlJ Z v):=rfl
theorem jnH {u:Tri} {k m:Int} (e1:k*u.x=m*v.x) (e2:k*u.y=m*v.y) (e3:k*u.z=m*v.z):(jlJ Z u).map (k*·)=(jlJ Z v).map (m*·):=by
 unfold jlJ rX rY rZ rW;simp only[xay,xcp]
 congr 1
 ·grind
 ·congr 1
  ·grind
  ·congr 1
   ·grind
   ·congr 1
    grind
theorem jnI {u:Tri} (h:Prp u v):spt Z u=spt Z v:=by
 obtain⟨k,m,k0,m0,e1,e2,e3⟩:=h;refine jfK ?_;rw[jgS,jgS,<- jfD k0 (jlJ Z u),<- jfD m0 (jlJ Z v),jnH e1 e2 e3]
def lnA (Z:Sht) (x y z:Int):Int:=Z.w*(x*Z.c.x+y*Z.c.y+z*Z.c.z)
def lnB (Z:Sht) (x y z:Int):Int:=Z.w*(x*Z.d.x+y*Z.d.y+z*Z.d.z)
def lnC (Z:Sht) (x y z v:Int):Int:=x*Z.s.x+y*Z.s.y+z*Z.s.z-v*Z.w
def hL (Z:Sht) (x y z v:Int):Tri->Int:=jaG (lnA Z x y z) (lnB Z x y z) (lnC Z x y z v)
theorem jfL (Z:Sht) (x y z v:Int) (a:Tri):rG Z a*hgt x y z v (spt Z a)=hL Z x y z v a:=by
 obtain⟨e1,e2,e3,e4⟩:=ja9 Z a;have e:rG Z a*hgt x y z v (spt Z a)=x*(rG Z a*(spt Z a).x)+y*(rG Z a*(spt Z a).y)+z*(rG Z a*(spt Z a).z)-v*(rG Z a*(spt Z a).w):=by
  unfold hgt;grind
 rw[e,e1,e2,e3,e4];unfold hL jaG lnA lnB lnC rX rY rZ rW;grind
theorem jce {z v:Int} {a:Tri} (hw:1<=Z.w) (ha:1<=a.z):(0<hgt x y z v (spt Z a)↔0<hL Z x y z v a)/\(hgt x y z v (spt Z a)<0↔hL Z x y z v a<0):=by
 have g:=jcV (Z:=Z) (v:=a) hw ha;rw[<- jfL];generalize hgt x y z v (spt Z a)=n;refine⟨⟨fun h=>xaq g h,fun h=>xbq h g⟩,⟨fun h=>xaA g h,fun h=>?_⟩⟩;rcases xcw n 0 with q | q
 ·exact q
 ·have:=xaJ (xbJ g) q;omega
theorem jj1 {z v:Int} {a b:Tri} (hw:1<=Z.w) (ha:1<=a.z) (hb:1<=b.z):hgt x y z v (spt Z a)*hgt x y z v (spt Z b)<0↔hL Z x y z v a*hL Z x y z v b<0:=by
 rw[opp_iff,opp_iff,(jce hw ha).1,(jce hw ha).2,(jce hw hb).1,(jce hw hb).2]
theorem sgn_opp {b:Int}:sgn a*sgn b<0↔a*b<0:=by
 rw[opp_iff,opp_iff];unfold sgn;rcases Int.lt_trichotomy a 0 with h | h | h<;>rcases Int.lt_trichotomy b 0 with k | k | k
 all_goals (simp only[gt_iff_lt];(repeat' split)<;>omega)
theorem jgT {r:Pt} (hq:0<q.w) (h:pl4 r=(pl4 q).map (-1*·)):jec r=jec q:=by
 have e:r=⟨-q.x,-q.y,-q.z,-q.w⟩:=jfK (h.trans (by unfold pl4;simp));subst e;unfold jec;rw[if_pos (show -q.w<0 by omega),if_neg (show ¬q.w<0 by omega)];simp only[xcm]
theorem jnJ (hq:0<q.w):pl4 (jec q)=low (pl4 q):=by
 unfold jec;rw[if_neg (show ¬q.w<0 by omega)];rfl
theorem jnK {z v:Int} {a b:Tri} (hw:1<=Z.w) (ha:1<=a.z) (hb:1<=b.z) (o:hL Z x y z v a*hL Z x y z v b<0):jec (jd7 x y z v (spt Z a) (spt Z b))=spt Z (xp (hL Z x y z v) a b):=by
 have o':=(jj1 hw ha hb).mpr o;have ga:=jcV (Z:=Z) (v:=a) hw ha;have gb:=jcV (Z:=Z) (v:=b) hw hb;have wa:=jgn (Z:=Z) hw ha;have wb:=jgn (Z:=Z) hw hb;have la:=jfL Z x y z v a;have lb:=jfL Z x y z v b;obtain⟨a1,a2,a3,a4⟩:=ja9 Z a;obtain⟨b1,b2,b3,b4⟩:=ja9 Z b;obtain⟨n1,n2,_,_⟩:=jdg o';have q1:=jbJ n1;have q2:=jbJ n2;have abm:∀{g n:Int},0<g->ab (g*n)=g*ab n:=fun {g n} hg=>by
  unfold ab;by_cases c:n<0
  ·rw[if_pos c,if_pos (xaA hg c)];grind
  ·rw[if_neg c,if_neg (by have:=xaJ (xbJ hg) (show 0<=n by omega);omega)]
 have ea:ab (hL Z x y z v a)=rG Z a*ab (hgt x y z v (spt Z a)):=by rw[<- la,abm ga]
 have eb:ab (hL Z x y z v b)=rG Z b*ab (hgt x y z v (spt Z b)):=by rw[<- lb,abm gb]
 let q:Pt:=⟨ab (hgt x y z v (spt Z b))*(spt Z a).x+ab (hgt x y z v (spt Z a))*(spt Z b).x,ab (hgt x y z v (spt Z b))*(spt Z a).y+ab (hgt x y z v (spt Z a))*(spt Z b).y,ab (hgt x y z v (spt Z b))*(spt Z a).z+ab (hgt x y z v (spt Z a))*(spt Z b).z,ab (hgt x y z v (spt Z b))*(spt Z a).w+ab (hgt x y z v (spt Z a))*(spt Z b).w⟩
 have qw:0<q.w:=by
  have h1:=xaq q2 (show 0<(spt Z a).w by omega);have h2:=xaq q1 (show 0<(spt Z b).w by omega);show 0<ab (hgt x y z v (spt Z b))*(spt Z a).w+ab (hgt x y z v (spt Z a))*(spt Z b).w;omega
 have raw:jlJ Z (xp (hL Z x y z v) a b)=(pl4 q).map (rG Z a*rG Z b*·):=by
  have lin:jlJ Z (xp (hL Z x y z v) a b)=[ab (hL Z x y z v b)*rX Z a+ab (hL Z x y z v a)*rX Z b,ab (hL Z x y z v b)*rY Z a+ab (hL Z x y z v a)*rY Z b,ab (hL Z x y z v b)*rZ Z a+ab (hL Z x y z v a)*rZ Z b,ab (hL Z x y z v b)*rW Z a+ab (hL Z x y z v a)*rW Z b]:=by
   unfold xp;generalize ab (hL Z x y z v b)=p;generalize ab (hL Z x y z v a)=r;unfold jlJ rX rY rZ rW jfa;simp only[List.cons.injEq,and_true];refine⟨?_,?_,?_,?_⟩<;>grind
  rw[lin,ea,eb,<- a1,<- a2,<- a3,<- a4,<- b1,<- b2,<- b3,<- b4];show _=[rG Z a*rG Z b*q.x,rG Z a*rG Z b*q.y,rG Z a*rG Z b*q.z,rG Z a*rG Z b*q.w];simp only[q,List.cons.injEq,and_true];refine⟨?_,?_,?_,?_⟩<;>grind
 have fin:jec (jd7 x y z v (spt Z a) (spt Z b))=jec q:=by
  rcases opp_iff.mp o' with ⟨p1,p2⟩ | ⟨p1,p2⟩
  ·refine jgT qw ?_;have e1:ab (hgt x y z v (spt Z a))=hgt x y z v (spt Z a):=if_neg (by omega);have e2:ab (hgt x y z v (spt Z b))=-hgt x y z v (spt Z b):=if_pos p2;show _=[-1*q.x,-1*q.y,-1*q.z,-1*q.w];simp only[q];rw[e1,e2];unfold pl4 jd7;simp only[List.cons.injEq,and_true];refine⟨?_,?_,?_,?_⟩<;>grind
  ·congr 1
   have e1:ab (hgt x y z v (spt Z a))=-hgt x y z v (spt Z a):=if_pos p1;have e2:ab (hgt x y z v (spt Z b))=hgt x y z v (spt Z b):=if_neg (by omega);refine jfK ?_;show _=[q.x,q.y,q.z,q.w];simp only[q];rw[e1,e2];unfold pl4 jd7;simp only[List.cons.injEq,and_true];refine⟨?_,?_,?_,?_⟩<;>grind
 rw[fin];refine jfK ?_;rw[jnJ qw,jgS,raw,jfD (xaq ga gb)]
def fK (x y z v:Int):Pt ⊕ Pt × Pt->Option Pt
 | .inl p=>if 0<=hgt x y z v p then some p else none
 | .inr e=>if hgt x y z v e.1*hgt x y z v e.2<0 then some (jec (jd7 x y z v e.1 e.2)) else none
theorem jpw {z v:Int} {o:Pt} (hp:1<=p.w) (ho:1<=o.w) (h:hgt x y z v p*hgt x y z v o<0):jec (jd7 x y z v o p)=jec (jd7 x y z v p o):=by
 have m:∀{p o:Pt},pl4 (jd7 x y z v o p)=(pl4 (jd7 x y z v p o)).map (-1*·):=fun {p o}=>by
  unfold pl4 jd7;simp only[xay,xcp,List.cons.injEq,and_true];refine⟨?_,?_,?_,?_⟩<;>grind
 rcases opp_iff.mp h with ⟨p1,p2⟩ | ⟨p1,p2⟩
 ·have h1:=xa0 p2 (show 0<p.w by omega);have h2:=xaq p1 (show 0<o.w by omega);exact (jgT (show 0<hgt x y z v p*o.w-hgt x y z v o*p.w by omega) m).symm
 ·have h1:=xaq p2 (show 0<p.w by omega);have h2:=xa0 p1 (show 0<o.w by omega);exact jgT (show 0<hgt x y z v o*p.w-hgt x y z v p*o.w by omega) m
theorem jj2 (d e:List (Pt × Int)):kHi (d++e)=kHi d++kHi e:=by
 unfold kHi;rw[xaB,xaj]
theorem jmz {α:Type} (g:α->List (Pt × Int)):∀l:List α,kHi (l.flatMap g)=l.flatMap fun a=>kHi (g a)
 | []=>rfl
 | a::l=>by rw[xbm,xbm,jj2,jmz g l]
theorem sgn_nn_iff {n:Int}:0<=sgn n↔0<=n:=by
 unfold sgn
 (repeat' split)<;>omega
theorem jpx (x y z v:Int) (p o:Pt):kHi (jjN x y z v p o)=[Sum.inr (p,o),Sum.inl o].filterMap (fK x y z v):=by
 unfold jjN;rw[jj2];have e1:kHi (if sgn (hgt x y z v p)*sgn (hgt x y z v o)<0 then [(jec (jd7 x y z v p o),0)] else [])=if hgt x y z v p*hgt x y z v o<0 then [jec (jd7 x y z v p o)] else []:=by
  by_cases c:hgt x y z v p*hgt x y z v o<0
  ·rw[if_pos (sgn_opp.mpr c),if_pos c];rfl
  ·rw[if_neg (fun h=>c (sgn_opp.mp h)),if_neg c];rfl
 have e2:kHi [(o,sgn (hgt x y z v o))]=if 0<=hgt x y z v o then [o] else []:=by
  unfold kHi;by_cases c:0<=hgt x y z v o
  ·rw[if_pos c,xaT (by exact decide_eq_true (sgn_nn_iff.mpr c))];rfl
  ·rw[if_neg c,xa8 (by simp only[decide_eq_true_eq];exact fun h=>c (sgn_nn_iff.mp h))];rfl
 rw[e1,e2];by_cases c:hgt x y z v p*hgt x y z v o<0<;>by_cases d:0<=hgt x y z v o<;>simp [fK,c,d]
theorem jpy (x y z v:Int) (ps:List Pt):kHi (sdd x y z v ps ps.length)=(TB (prs (ps.drop (ps.length-1)++ps.take (ps.length-1)))).filterMap (fK x y z v):=by
 unfold sdd;rw[jmz,jdT,<- jpr p0];unfold TB;rw[List.filterMap_flatMap,List.flatMap_map]
 congr 1
 funext i
 exact jpx ..
theorem tt_up {z v:Int} (hw:1<=Z.w) (hz:∀u∈vs,1<=u.z) (hX:∀a b,a∈vs->b∈vs->hL Z x y z v a*hL Z x y z v b<0->Prp (xp (hL Z x y z v) a b) (X a b)) :
  (TT (prs (vs.map (spt Z)))).filterMap (fK x y z v)=(upL (hL Z x y z v) X vs).map (spt Z):=by
 unfold TT upL;rw[jnC,List.filterMap_flatMap,List.flatMap_map,List.map_flatMap];refine jeg fun e he=>?_;obtain⟨m1,m2⟩:=jdV he;have z1:=hz _ m1;have z2:=hz _ m2;have i1:(0<=hgt x y z v (spt Z e.1))↔0<=hL Z x y z v e.1:=by
  have:=(jce (x:=x) (y:=y) (z:=z) (v:=v) hw z1).2;omega
 have i2:=jj1 (x:=x) (y:=y) (z:=z) (v:=v) hw z1 z2;have i3:hL Z x y z v e.1*hL Z x y z v e.2<0->jec (jd7 x y z v (spt Z e.1) (spt Z e.2))=spt Z (X e.1 e.2):=fun o=>(jnK hw z1 z2 o).trans (jnI (hX _ _ m1 m2 o));unfold upE;by_cases c:0<=hL Z x y z v e.1<;>by_cases d:hL Z x y z v e.1*hL Z x y z v e.2<0
 ·have:=i3 d;simp [fK,i1,i2,c,d,this]
 ·simp [fK,i1,i2,c,d]
 ·have:=i3 d;simp [fK,i1,i2,c,d,this]
 ·simp [fK,i1,i2,c,d]
theorem jgs {z v:Int} (hw:1<=Z.w) (hz:∀u∈vs,1<=u.z) (hX:∀a b,a∈vs->b∈vs->hL Z x y z v a*hL Z x y z v b<0->Prp (xp (hL Z x y z v) a b) (X a b)) (r:RR (vs.map (spt Z)) ps) :
    RR ((upL (hL Z x y z v) X vs).map (spt Z)) (kHi (sdd x y z v ps ps.length)):=by
  have wp:∀p∈ps,1<=p.w:=fun p hp=>by
    obtain⟨u,hu,rfl⟩:=xax.mp (r.mem.mp hp);exact jgn hw (hz u hu)
  let f':Pt ⊕ Pt × Pt->Option Pt:=fun s=>match s with
    | .inl p=>fK x y z v (.inl p)
    | .inr e=>if 1<=e.1.w/\1<=e.2.w then fK x y z v (.inr e) else none
  have sym:∀s,f' (swS s)=f' s:=fun s=>by
    cases s with
    | inl p=>rfl
    | inr e =>
      show (if 1<=e.2.w/\1<=e.1.w then fK x y z v (.inr (e.2,e.1)) else none)=if 1<=e.1.w/\1<=e.2.w then fK x y z v (.inr e) else none;by_cases c:1<=e.1.w/\1<=e.2.w
      . rw[if_pos c,if_pos ⟨c.2,c.1⟩]
        unfold fK;have cm:hgt x y z v e.2*hgt x y z v e.1=hgt x y z v e.1*hgt x y z v e.2:=xbf _ _;by_cases o:hgt x y z v e.1*hgt x y z v e.2<0
        . simp only[cm,if_pos o]
          rw[jpw c.1 c.2 o]
        . simp only[cm,if_neg o]
      . rw[if_neg c,if_neg fun q=>c ⟨q.2,q.1⟩]
  have pm:∀{l:List Pt} {e:Pt × Pt},e∈prs l->e.1∈l/\e.2∈l:=fun {l e} he=>by
    obtain⟨i,hi⟩:=xbD.mp he;have il:i<l.length:=by have:=(xag.mp hi).1;rw[jdU] at this;exact this
    rw[jcZ p0 il] at hi;have ee:=Option.some.inj hi;subst ee;exact⟨jbk il,jbk (xaL _ (by omega))⟩
  have same:∀{l:List Pt},(∀p∈l,1<=p.w)->∀s:Pt ⊕ Pt × Pt,(s∈TT (prs l)\/s∈TB (prs l))->f' s=fK x y z v s:=fun {l} hl s hs=>by
    cases s with
    | inl p=>rfl
    | inr e =>
      have he:e∈prs l:=by
        rcases hs with h | h
        . obtain⟨e',he',h⟩:=xbN.mp h
          simp at h;rw[h];exact he'
        . obtain⟨e',he',h⟩:=xbN.mp h
          simp at h;rw[h];exact he'
      obtain⟨m1,m2⟩:=pm he;exact if_pos ⟨hl _ m1,hl _ m2⟩
  have w0:∀p∈vs.map (spt Z),1<=p.w:=fun p hp=>wp p (r.mem.mpr hp);have r2:RR (vs.map (spt Z)) (ps.drop (ps.length-1)++ps.take (ps.length-1)):=.rot _ r;have t1:=jnx f' sym r2;have t2:=(jmv (ps.drop (ps.length-1)++ps.take (ps.length-1))).fm f';have w2:∀p∈ps.drop (ps.length-1)++ps.take (ps.length-1),1<=p.w:=fun p hp=>wp p (by
    rcases xaz.mp hp with h | h
    . exact List.mem_of_mem_drop h
    . exact xbi h)
  have t3:=t1.trans t2;rw[jdW fun s hs=>same w0 s (.inl hs),jdW (g:=fK x y z v) (l:=TB _) fun s hs=>same w2 s (.inr hs)] at t3;rw[jpy,<- tt_up hw hz hX];exact t3
theorem RR.dih {m:List Pt} (h:RR l m) (n3:3<=l.length) (n9:l.length<=17):Dih l m:=by
  induction h with
  | refl=>exact Dih.refl n3
  | @rot m k h ih =>
    by_cases c:k<l.length
    . exact ih.rot n9 c
    . rw[jfG m (by have:=h.len; omega)]
      exact ih
  | rev _ ih=>exact ih.rev n9
theorem jeI (l:List Pt) (qs:List Pt):RR l (frm qs l):=by
  have t:∀(b:Bool) (m:List Pt),RR m (turn b m):=fun b m=>by
    unfold turn;by_cases c:b=true
    . rw[if_pos c]
      cases m with
      | nil=>exact .refl _
      | cons x r =>
        have z:=RR.rot (l:=x::r) r.reverse.length (.rev (.refl _));rw[xaP,xbW,xbX] at z;exact z
    . rw[if_neg c]
      exact .refl _
  unfold frm;exact (RR.rot (fF qs) (.refl l)).trans (t _ _)
theorem jpz (hq:q.w≠0):jec ⟨-q.x,-q.y,-q.z,-q.w⟩=jec q:=by
 unfold jec;by_cases c:q.w<0
 ·rw[if_pos c,if_neg (show ¬-q.w<0 by omega)]
 ·rw[if_neg c,if_pos (show -q.w<0 by omega)];simp only[xcm]
theorem jj3 (x y z v:Int) (p:Pt):hgt (-x) (-y) (-z) (-v) p=-hgt x y z v p:=by
 unfold hgt;grind
theorem jmA (n:Int):sgn (-n)=-sgn n:=by
 unfold sgn
 (repeat' split)<;>omega
theorem jpA {z v:Int} {o:Pt} (hp:1<=p.w) (ho:1<=o.w):jjN (-x) (-y) (-z) (-v) p o=(jjN x y z v p o).map fun d=>(d.1,-d.2):=by
 unfold jjN;rw[jj3,jj3,jmA,jmA];have e:-sgn (hgt x y z v p)*-sgn (hgt x y z v o)=sgn (hgt x y z v p)*sgn (hgt x y z v o):=by grind
 rw[e];by_cases c:sgn (hgt x y z v p)*sgn (hgt x y z v o)<0
 ·have w:=jmt hp ho c;have e2:jd7 (-x) (-y) (-z) (-v) p o=⟨-(jd7 x y z v p o).x,-(jd7 x y z v p o).y,-(jd7 x y z v p o).z,-(jd7 x y z v p o).w⟩:=by
   unfold jd7;simp only[jj3]
   congr 1<;>grind
  rw[if_pos c,if_pos c,e2,jpz w];rfl
 ·rw[if_neg c,if_neg c];rfl
theorem jpB (l:List (Pt × Int)):kLo l=kHi (l.map fun d=>(d.1,-d.2)):=by
  unfold kLo kHi;induction l with
  | nil=>rfl
  | cons d l ih =>
    rw[xay];by_cases c:d.2<=0
    . rw[xaT (by exact decide_eq_true c),xaT (by simp only[decide_eq_true_eq];omega),xay,xay,ih]
    . rw[xa8 (by simp only[decide_eq_true_eq];omega),xa8 (by simp only[decide_eq_true_eq];omega),ih]
theorem jnL {z v:Int} (hp:∀p∈ps,1<=p.w):kLo (sdd x y z v ps ps.length)=kHi (sdd (-x) (-y) (-z) (-v) ps ps.length):=by
 rw[jpB]
 congr 1
 unfold sdd;rw[List.map_flatMap];refine jeg fun i hi=>?_;have hi:=xaY.mp hi;exact (jpA (hp _ (jbk (xaL _ (by omega)))) (hp _ (jbk hi))).symm
theorem jj4 (Z:Sht) (x y z v:Int) (a:Tri):hL Z (-x) (-y) (-z) (-v) a=-hL Z x y z v a:=by
 unfold hL jaG lnA lnB lnC;grind
theorem jnM {c:Nat->Tri} (h:Tp c n) (hi:i<n) (hj:j<n) (hk:k<n) (ij:i≠j) (jk:j≠k) (ik:i≠k):dt (c i) (c j) (c k)≠0:=by
 have s1:∀a b d:Tri,dt a b d=-dt b a d:=fun a b d=>by unfold dt jbK;grind
 have s2:∀a b d:Tri,dt a b d=-dt a d b:=fun a b d=>by unfold dt jbK;grind
 have P:∀{i j k:Nat},i<n->j<n->k<n->i<j->j<k->0<dt (c i) (c j) (c k):=fun _ _ h3 h4 h5=>h _ _ _ h4 h5 h3;rcases xcx ij with a | a<;>rcases xcx jk with b | b<;>rcases xcx ik with d | d
 ·have:=P hi hj hk a b;omega
 ·omega
 ·have:=P hi hk hj d b;have:=s2 (c i) (c j) (c k);omega
 ·have:=P hk hi hj d a;have e1:=s2 (c i) (c j) (c k);have e2:=s1 (c i) (c k) (c j);omega
 ·have:=P hj hi hk a d;have:=s1 (c i) (c j) (c k);omega
 ·have:=P hj hk hi b d;have e1:=s1 (c i) (c j) (c k);have e2:=s2 (c j) (c i) (c k);omega
 ·omega
 ·have:=P hk hj hi b a;have e1:=s1 (c i) (c j) (c k);have e2:=s2 (c j) (c i) (c k);have e3:=s1 (c j) (c k) (c i);omega
theorem jbl (h:i<us.length):pt (us.map (spt Z)) i=spt Z (tr us i):=by
 unfold pt tr;rw[xac,xaf,xab h,xac,xab h];rfl
theorem jlK (hw:1<=Z.w) (nz:Z.u.nz) (n3:3<=us.length) (t:TpL us) (hz:∀u∈us,1<=u.z):Tot (us.map (spt Z)):=by
 have ln:(us.map (spt Z)).length=us.length:=xaa _;have W:∀p,p∈us.map (spt Z)->1<=p.w:=fun p hp=>by
  obtain⟨u,hu,rfl⟩:=xax.mp hp;exact jgn hw (hz u hu)
 refine⟨fun p q r hp hq hr h1 h2=>sf_tr (W p hp) (W q hq) (W r hr) h1 h2,fun i j hi hj ij=>?_⟩;rw[ln] at hi hj;obtain⟨k,hk,jk,ik⟩:=jbd (i:=i) (j:=j) n3;have na:=jdG hw nz (jnM t hi hj hk ij jk ik);rw[jbl hi,jbl hj];apply xal;intro n;rw[not_or,jjL,jjL] at n;refine na (jjM _ (jgn hw (hz _ (jdH hj))) ?_ ?_ ?_)
 all_goals
  generalize (spt Z (tr us i)).x*(spt Z (tr us j)).w=a at *
  generalize (spt Z (tr us j)).x*(spt Z (tr us i)).w=a' at *
  generalize (spt Z (tr us i)).y*(spt Z (tr us j)).w=b at *
  generalize (spt Z (tr us j)).y*(spt Z (tr us i)).w=b' at *
  generalize (spt Z (tr us i)).z*(spt Z (tr us j)).w=c at *
  generalize (spt Z (tr us j)).z*(spt Z (tr us i)).w=c' at *
  omega
theorem jpC {m:List Pt} (T:Tot l) (n3:3<=l.length) (n9:l.length<=17) (h:RR l m):frm m m=frm l l:=jns T n3 n9 (h.dih n3 n9)
def bt (h:Tri->Int) (a b:Tri):Tri:=jgQ (xp h a b)
theorem jfM {m:Nat} (h:v.bd n) (e:n<=m:=by decide):v.bd m:=⟨Bd.mono h.1 e,Bd.mono h.2.1 e,Bd.mono h.2.2 e⟩
open Classical in
noncomputable def UP (h:Tri->Int) (vs:List Tri):List Tri:=if ∃v∈vs,0<h v then upL h (bt h) vs else []
theorem jfd {a b:Tri} (ha:1<=a.z) (hb:1<=b.z) (o:h a*h b<0):Prp (xp h a b) (bt h a b):=jlI (xp_z ha hb o)
theorem jhI (hh:∀v∈vs,0<=h v):upL h X vs=vs:=by
  unfold upL;have e:(prs vs).flatMap (upE h X)=(prs vs).flatMap fun e=>[e.1]:=jeg fun e he=>by
    obtain⟨m1,m2⟩:=jdV he;unfold upE;rw[if_pos (hh _ m1),if_neg (by have:=xaJ (hh _ m1) (hh _ m2);omega)];rfl
  rw[e];have g:∀(r:List Tri) (x a:Tri),(nxt (x::r) a).flatMap (fun e=>[e.1])=x::r:=fun r=>by
    induction r with
    | nil=>intro x a;rfl
    | cons y r ih =>
      intro x a;show x::(nxt (y::r) a).flatMap (fun e=>[e.1])=_;rw[ih]
  cases vs with
  | nil=>rfl
  | cons x r=>exact g r x x
theorem jbZ (hp:∃v∈vs,0<h v):UP h vs=upL h (bt h) vs:=by
 unfold UP;exact if_pos hp
theorem jd8 (hn:¬∃v∈vs,0<h v):UP h vs=[]:=by
 unfold UP;exact if_neg hn
theorem jfN {C:Int} {a b:Tri} (o:jaG A B C a*jaG A B C b<0):jaG A B C (xp (jaG A B C) a b)=0:=by
 have e:jaG A B C (xp (jaG A B C) a b)=ab (jaG A B C b)*jaG A B C a+ab (jaG A B C a)*jaG A B C b:=by
  unfold xp jfa;generalize ab (jaG A B C b)=p;generalize ab (jaG A B C a)=q;unfold jaG;grind
 rw[e];unfold ab;rcases opp_iff.mp o with ⟨p1,p2⟩ | ⟨p1,p2⟩
 ·rw[if_pos p2,if_neg (by omega)];grind
 ·rw[if_neg (by omega),if_pos p1];grind
def InR (vs:List Tri) (p:Tri):Prop:=∀e∈prs vs,0<=dt e.1 e.2 p
structure Rng (vs:List Tri):Prop where
 n3:3<=vs.length
 tp:TpL vs
 hz:∀v∈vs,1<=v.z
theorem jj5 {e:Tri × Tri} (he:e∈prs vs):∃i,i<vs.length/\e=(tr vs i,tr vs ((i+1) % vs.length)):=by
 obtain⟨i,hi⟩:=xbD.mp he;have il:i<vs.length:=by have:=(xag.mp hi).1;rw[jdU] at this;exact this
 rw[jcZ t0 il] at hi;exact⟨i,il,(Option.some.inj hi).symm⟩
theorem jmB (hi:i<vs.length):(tr vs i,tr vs ((i+1) % vs.length))∈prs vs:=xav (jcZ t0 hi)
theorem jeh {c:Nat->Tri} (h:Tp c n) (n3:3<=n) (hi:i<n) (hk:k<n) (k1:k≠i) (k2:k≠(i+1) % n):0<dt (c i) (c ((i+1) % n)) (c k):=by
 by_cases w:i+1<n
 ·rw[xah w] at k2 |-
  by_cases q:k<i
  ·rw[<- jcW];exact h k i (i+1) q (by omega) w
  ·exact h i (i+1) k (by omega) (by omega) hk
 ·have e:i+1=n:=by omega
  rw[e,xbk] at k2 |-
  rw[jcW];exact h 0 k i (by omega) (by omega) hi
theorem jnN {c:Nat->Tri} (h:Tp c n) (n3:3<=n) (hi:i<n) (hk:k<n):0<=dt (c i) (c ((i+1) % n)) (c k):=by
 by_cases k1:k=i
 ·rw[k1,(jcX _ _).2.2];exact xbl _
 ·by_cases k2:k=(i+1) % n
  ·rw[k2,(jcX _ _).2.1];exact xbl _
  ·exact xbJ (jeh h n3 hi hk k1 k2)
theorem Rng.own (R:Rng vs) (hv:v∈vs):InR vs v:=fun e he=>by
 obtain⟨i,hi,rfl⟩:=jj5 he;obtain⟨k,hk,rfl⟩:=jhH hv;exact jnN R.tp R.n3 hi hk
theorem jj6 (a b c p:Tri):dt a b c*p.x=dt p b c*a.x+dt a p c*b.x+dt a b p*c.x/\dt a b c*p.y=dt p b c*a.y+dt a p c*b.y+dt a b p*c.y/\dt a b c*p.z=dt p b c*a.z+dt a p c*b.z+dt a b p*c.z:=by
 unfold dt jbK;refine⟨?_,?_,?_⟩<;>grind
theorem jlL (A B C:Int) (a b c p:Tri):dt a b c*jaG A B C p=dt p b c*jaG A B C a+dt a p c*jaG A B C b+dt a b p*jaG A B C c:=by
 obtain⟨e1,e2,e3⟩:=jj6 a b c p;have e:dt a b c*jaG A B C p=A*(dt a b c*p.x)+B*(dt a b c*p.y)+C*(dt a b c*p.z):=by unfold jaG;grind
 rw[e,e1,e2,e3];unfold jaG;grind
theorem jhJ {g:Nat->Int}:∀m:Nat,0<=g 1->g (m+2)<=0->∃j,1<=j/\j<=m+1/\0<=g j/\g (j+1)<=0
  | 0,h1,h2=>⟨1,by omega,by omega,h1,h2⟩
  | m + 1, h1, h2 => by
    by_cases c:0<=g (m+2)
    . exact⟨m+2,by omega,by omega,c,h2⟩
    . obtain⟨j,a,b,c1,c2⟩:=jhJ m h1 (by omega)
      exact⟨j,a,by omega,c1,c2⟩
theorem hull (R:Rng vs) {p:Tri} (hp:InR vs p) (pz:1<=p.z):∃(a b c:Tri) (α β γ D:Int),a∈vs/\b∈vs/\c∈vs/\0<D/\0<=α/\0<=β/\0<=γ/\(0<α\/0<β\/0<γ)/\(D*p.x=α*a.x+β*b.x+γ*c.x/\D*p.y=α*a.y+β*b.y+γ*c.y/\D*p.z=α*a.z+β*b.z+γ*c.z)/\∀A B C:Int,D*jaG A B C p=α*jaG A B C a+β*jaG A B C b+γ*jaG A B C c:=by
 have n3:=R.n3;have m:∀i,i % vs.length<vs.length:=fun i=>xaL _ (by omega);have E:∀i,i<vs.length->0<=dt (tr vs i) (tr vs ((i+1) % vs.length)) p:=fun i hi=>hp _ (jmB hi);have g1:0<=dt (tr vs 0) (tr vs 1) p:=by
  have:=E 0 (by omega);rw[xbC,xah (by omega)] at this;exact this
 have g2:dt (tr vs 0) (tr vs (vs.length-3+2)) p<=0:=by
  have:=E (vs.length-1) (by omega);rw[show vs.length-1+1=vs.length by omega,xbk] at this;rw[show vs.length-3+2=vs.length-1 by omega];have sw:dt (tr vs 0) (tr vs (vs.length-1)) p=-dt (tr vs (vs.length-1)) (tr vs 0) p:=by unfold dt jbK;grind
  omega
 obtain⟨j,j1,j2,h1,h2⟩:=jhJ (g:=fun j=>dt (tr vs 0) (tr vs j) p) (vs.length-3) g1 g2;have jl:j+1<vs.length:=by omega
 have h3:=E j (by omega);rw[xah jl] at h3;have D:=R.tp 0 j (j+1) (by omega) (by omega) jl;have s1:dt p (tr vs j) (tr vs (j+1))=dt (tr vs j) (tr vs (j+1)) p:=jcW _ _ _;have s2:dt (tr vs 0) p (tr vs (j+1))=-dt (tr vs 0) (tr vs (j+1)) p:=by unfold dt jbK;grind
 have cr:=jj6 (tr vs 0) (tr vs j) (tr vs (j+1)) p;refine⟨tr vs 0,tr vs j,tr vs (j+1),dt p (tr vs j) (tr vs (j+1)),dt (tr vs 0) p (tr vs (j+1)),dt (tr vs 0) (tr vs j) p,dt (tr vs 0) (tr vs j) (tr vs (j+1)),jdH (by omega),jdH (by omega),jdH jl,D,by omega,by omega,h1,?_,cr,fun A B C=>jlL A B C _ _ _ _⟩;apply xal;intro n;have a0:dt p (tr vs j) (tr vs (j+1))=0:=by omega
 have b0:dt (tr vs 0) p (tr vs (j+1))=0:=by omega
 have c0:dt (tr vs 0) (tr vs j) p=0:=by
  have:0<=dt (tr vs 0) (tr vs j) p:=h1;omega
 have e:=cr.2.2;rw[a0,b0,c0] at e;have:=xaq D (show 0<p.z by omega);omega
theorem jj7 (R:Rng vs) {p:Tri} (hp:InR vs p) (pz:1<=p.z) {C:Int} (h:∀v∈vs,0<=jaG A B C v):0<=jaG A B C p:=by
 obtain⟨a,b,c,α,β,γ,D,ha,hb,hc,D0,a0,b0,c0,_,_,e⟩:=hull R hp pz;have e:=e A B C;have h1:=xaJ a0 (h a ha);have h2:=xaJ b0 (h b hb);have h3:=xaJ c0 (h c hc);rcases xcw (jaG A B C p) 0 with q | q
 ·have:=xaA D0 q;omega
 ·exact q
theorem jhK (a b p:Tri):dt a b p=jaG (a.y*b.z-a.z*b.y) (a.z*b.x-a.x*b.z) (a.x*b.y-a.y*b.x) p:=rfl
theorem jgt (hi:i<n):((i+(n-1)) % n+1) % n=i:=by
 by_cases c:i=0
 ·subst c;rw[xbC,xah (show n-1<n by omega),show n-1+1=n by omega,xbk]
 ·rw[show i+(n-1)=i-1+n by omega,xa7,xah (show i-1<n by omega),show i-1+1=i by omega,xah hi]
theorem Prp.trans {u w:Tri} (h:Prp u v) (k:Prp v w):Prp u w:=by
 obtain⟨a,b,a0,b0,e1,e2,e3⟩:=h;obtain⟨c,d,c0,d0,f1,f2,f3⟩:=k;refine⟨c*a,b*d,xaq c0 a0,xaq b0 d0,?_,?_,?_⟩
 ·grind
 ·grind
 ·grind
def OnE (vs:List Tri) (a b:Tri):Prop:=∃e∈prs vs,∃k m:Int,0<k/\0<m/\∀q:Tri,k*dt a b q=m*dt e.1 e.2 q
def Nb (h:Tri->Int) (vs:List Tri) (a b:Tri):Prop:=OnE vs a b\/(h a=0/\h b=0)
theorem Adj.mono {α:Type} {R S:α->α->Prop} (i:∀a b,R a b->S a b):∀{l:List α},Adj R l->Adj S l
 | [],_=>trivial
 | [_],_=>trivial
 | _::b::l,h=>⟨i _ _ h.1,Adj.mono i (l:=b::l) h.2⟩
theorem jlM {α:Type} {h:α->Int} {P:α->α->Prop} (l:List α):∀x:α,(0<=h x->Adj (fun x y=>¬(h x<0/\0<h y)/\¬(0<h x/\h y<0)) (x::l)->Adj P (x::l)->Adj (fun a b=>P a b\/(h a=0/\h b=0)) (x::l.filter fun p=>decide (0<=h p))) /\
    (∀y:α,h x=0->h y<0->Adj (fun x y=>¬(h x<0/\0<h y)/\¬(0<h x/\h y<0)) (y::l)->Adj P (y::l)->Adj (fun a b=>P a b\/(h a=0/\h b=0)) (x::l.filter fun p=>decide (0<=h p))):=by
  induction l with
  | nil=>exact fun x=>⟨fun _ _ _=>trivial,fun _ _ _ _ _=>trivial⟩
  | cons z l ih =>
    intro x;refine⟨fun hx c p=>?_,fun y hx hy c p=>?_⟩
    . by_cases hz:0 <= h z
      . rw[xaT (by exact decide_eq_true hz)]
        exact⟨.inl p.1,(ih z).1 hz c.2 p.2⟩
      . rw[xa8 (by simpa using hz)]
        have:=c.1;exact (ih x).2 z (by omega) (by omega) c.2 p.2
    . by_cases hz:0 <= h z
      . rw[xaT (by exact decide_eq_true hz)]
        have:=c.1;exact⟨.inr ⟨hx,by omega⟩,(ih z).1 hz c.2 p.2⟩
      . rw[xa8 (by simpa using hz)]
        exact (ih x).2 z hx (by omega) c.2 p.2
theorem jmC {α:Type} {R:α->α->Prop}:∀{l:List α},Adj R l->∀e∈op l,R e.1 e.2
  | [],_,e,he=>by cases he
  | [_],_,e,he=>by cases he
  | a :: b :: l, h, e, he => by
    rcases xap.mp (show e∈(a,b)::op (b::l) from he) with q | q
    . rw[q];exact h.1
    . exact jmC (l:=b::l) h.2 e q
theorem jpD {α:Type} (x:α) (r:List α):prs (x::r)=op (x::r++[x]):=jhD x (x::r)
theorem jpE (hX:∀a b,a∈vs->b∈vs->h a*h b<0->Prp (xp h a b) (X a b)):∀(r:List Tri) (x a:Tri),x∈vs->a∈vs->(∀v∈r,v∈vs)->(∀e∈nxt (x::r) a,e∈prs vs)->∃w,(nxt (x::r) a).flatMap (agE h X)=x::w/\Adj (OnE vs) (x::w++[a]):=by
  have one:∀x y,x∈vs->y∈vs->(x,y)∈prs vs->Adj (OnE vs) (agE h X (x,y)++[y]):=fun x y hx hy he=>by
    unfold agE;by_cases o:h x*h y<0
    . obtain⟨k,m,k0,m0,e1,e2,e3⟩:=hX x y hx hy o
      obtain⟨n1,n2,_,_⟩:=jdg o;have p1:=jbJ n1;have p2:=jbJ n2;simp only[if_pos o];have lin:∀(a b:Tri),(∀q:Tri,m*dt a (X x y) q=k*dt a (xp h x y) q)/\∀q:Tri,m*dt (X x y) b q=k*dt (xp h x y) b q:=fun a b=>by
        generalize X x y=v at *
        generalize xp h x y=u at *
        refine⟨fun q=>?_,fun q=>?_⟩
        . have:∀(c:Int) (u:Tri),c*dt a u q=dt a ⟨c*u.x,c*u.y,c*u.z⟩ q:=fun c u=>by unfold dt jbK; grind
          rw[this,this,e1,e2,e3]
        . have:∀(c:Int) (u:Tri),c*dt u b q=dt ⟨c*u.x,c*u.y,c*u.z⟩ b q:=fun c u=>by unfold dt jbK; grind
          rw[this,this,e1,e2,e3]
      have f1:∀q,dt x (xp h x y) q=ab (h x)*dt x y q:=fun q=>by
        unfold xp;rw[jgP,(jcX x q).1];grind
      have f2:∀q,dt (xp h x y) y q=ab (h y)*dt x y q:=fun q=>by
        unfold xp;rw[jjR,(jcX y q).1];grind
      refine⟨⟨(x,y),he,m,k*ab (h x),m0,xaq k0 p1,fun q=>by rw[(lin x y).1 q,f1 q];grind⟩,⟨(x,y),he,m,k*ab (h y),m0,xaq k0 p2,fun q=>by rw[(lin x y).2 q,f2 q];grind⟩,trivial⟩
    . simp only[if_neg o]
      exact⟨⟨(x,y),he,1,1,by decide,by decide,fun _=>rfl⟩,trivial⟩
  intro r;induction r with
  | nil =>
    intro x a hx ha _ he;refine⟨if h x*h a<0 then [X x a] else [],?_,one x a hx ha (he _ (by simp [nxt]))⟩;show agE h X (x,a)++[]=_;rw[xbx];rfl
  | cons y r ih =>
    intro x a hx ha hr he;obtain⟨w,e1,e2⟩:=ih y a (hr y (by simp)) ha (fun v hv=>hr v (xas _ hv)) fun e h'=>he e (by simp [nxt,h']);refine⟨(if h x*h y<0 then [X x y] else [])++y::w,?_,?_⟩
    . show agE h X (x,y)++(nxt (y::r) a).flatMap (agE h X)=_
      rw[e1];rfl
    . have g:=Adj.glue (l:=agE h X (x,y)) (x:=y) (m:=w++[a]) (one x y hx (hr y (by simp)) (he _ (by simp [nxt]))) e2
      have e:x::((if h x*h y<0 then [X x y] else [])++y::w)++[a]=agE h X (x,y)++y::(w++[a]):=by
        unfold agE;simp
      rw[e];exact g
theorem prs_rot_mem {α:Type} {l m:List α} {e:α × α}:e∈prs (l++m)↔e∈prs (m++l):=by
 have z:=jdT (l++m) l.length;rw[xbW,xbX] at z;rw[z,xaz,Or.comm,<- xaz,xaW]
theorem jpF {C:Int} (hz:∀v∈vs,1<=v.z) (hX:∀a b,a∈vs->b∈vs->jaG A B C a*jaG A B C b<0->Prp (xp (jaG A B C) a b) (X a b)) (up:∃v∈vs,0<jaG A B C v):∀e∈prs (upL (jaG A B C) X vs),Nb (jaG A B C) vs e.1 e.2:=by
  have x0:=fun a b ha hb o=>jfJ (hX a b ha hb o) (jfN (A:=A) (B:=B) (C:=C) o);obtain⟨u,hu,pu⟩:=up;rw[<- ag_up x0]
  match vs,hz,hX,x0,hu with
  | x :: r, hz, hX, x0, hu =>
    obtain⟨w,e1,e2,_⟩:=jpv (h:=jaG A B C) (X:=X) (S:=fun v=>v∈x::r) hz (fun a b ha hb o=>⟨hX a b ha hb o,x0 a b ha hb o⟩) (a:=x) (by simp) r x (by simp) fun v hv=>xas _ hv;obtain⟨w',e1',e3⟩:=jpE (h:=jaG A B C) hX r x x (by simp) (by simp) (fun v hv=>xas _ hv) fun e he=>he;have ww:w'=w:=by
      have:=e1'.symm.trans e1;injection this
    subst ww;have eA:agL (jaG A B C) X (x::r)=x::w':=e1;have um:u∈x::w':=by
      rw[<- eA];obtain⟨i,hi,rfl⟩:=jhH hu;refine xbN.mpr ⟨_,xav (jcZ t0 hi),?_⟩;exact xba
    obtain⟨l1,l2,el⟩:=List.append_of_mem um;rw[eA,el];have rotA:∀{R:Tri->Tri->Prop},Adj R (x::w'++[x])->Adj R (u::(l2++l1)++[u]):=fun {R} c=>by
      have c1:Adj R (l1++u::(l2++[x])):=by
        have e2:x::w'++[x]=l1++u::(l2++[x]):=by rw[el];simp
        rw[<- e2];exact c
      cases l1 with
      | nil =>
        have:x=u:=by injection el
        subst this;simpa using c1
      | cons x' l1 =>
        have:x=x':=by injection el
        subst this;have g:=Adj.glue (l:=u::l2) (x:=x) (m:=l1++[u]) c1.right c1.left;simpa using g
    have a1:=rotA e2;have a2:=rotA e3;have a1':Adj (fun x y=>¬(jaG A B C x<0/\0<jaG A B C y)/\¬(0<jaG A B C x/\jaG A B C y<0)) (u::((l2++l1)++[u])):=a1;have a2':Adj (OnE (x::r)) (u::((l2++l1)++[u])):=a2;have f:=(jlM (h:=jaG A B C) (P:=OnE (x::r)) ((l2++l1)++[u]) u).1 (by omega) a1' a2';rw[xaB,xaT (by exact decide_eq_true (show 0<=jaG A B C u by omega)),List.filter_nil] at f;intro e he;have he':e∈prs (u::(l2++l1).filter fun p=>decide (0<=jaG A B C p)):=by
      rw[xaB,xaT (by exact decide_eq_true (show 0<=jaG A B C u by omega))] at he;have z:=prs_rot_mem.mp he;rw[xaB];exact z
    rw[jpD] at he';exact jmC f e he'
theorem jgu {C:Int} {a b:Tri} (ha:jaG A B C a=0) (hb:jaG A B C b=0) (q u:Tri):dt a b q*jaG A B C u=jaG A B C q*dt a b u:=by
 unfold jaG at *
 unfold dt jbK;grind
theorem jiu {C:Int} (R:Rng vs) (hX:∀a b,a∈vs->b∈vs->jaG A B C a*jaG A B C b<0->Prp (xp (jaG A B C) a b) (X a b)) (up:∃v∈vs,0<jaG A B C v):Rng (upL (jaG A B C) X vs)/\∀p:Tri,1<=p.z->(InR (upL (jaG A B C) X vs) p↔InR vs p/\0<=jaG A B C p):=by
 have N:=jpF R.hz hX up;have x0:=fun a b ha hb o=>jfJ (hX a b ha hb o) (jfN (A:=A) (B:=B) (C:=C) o);have R2:Rng (upL (jaG A B C) X vs):=by
  obtain⟨u,hu,pu⟩:=up;obtain⟨i,hi,rfl⟩:=jhH hu;refine⟨jnE hX R.n3 hi pu,up_tp hX R.n3 R.tp,fun v hv=>?_⟩;rcases jhG hv with ⟨h,_⟩ | ⟨a,b,ha,hb,o,rfl⟩
  ·exact R.hz v h
  ·exact (hX a b ha hb o).z (xp_z (R.hz a ha) (R.hz b hb) o)
 have inn:∀v∈upL (jaG A B C) X vs,InR vs v/\0<=jaG A B C v:=fun v hv=>by
  rcases jhG hv with ⟨h,h0⟩ | ⟨a,b,ha,hb,o,rfl⟩
  ·exact⟨R.own h,h0⟩
  ·refine⟨fun e he=>?_,by rw[x0 a b ha hb o];exact xbl _⟩;obtain⟨k,m,k0,m0,e1,e2,e3⟩:=hX a b ha hb o;obtain⟨n1,n2,_,_⟩:=jdg o;have p1:=jbJ n1;have p2:=jbJ n2;have f1:=R.own ha e he;have f2:=R.own hb e he;have f3:dt e.1 e.2 (xp (jaG A B C) a b)=ab (jaG A B C b)*dt e.1 e.2 a+ab (jaG A B C a)*dt e.1 e.2 b:=by unfold xp;exact jgq ..
   have f4:m*dt e.1 e.2 (X a b)=k*dt e.1 e.2 (xp (jaG A B C) a b):=by
    rw[jhK,jhK];exact (jgR e1 e2 e3).symm
   have g1:=xaJ (xbJ p2) f1;have g2:=xaJ (xbJ p1) f2;have g3:=xaJ (xbJ k0) (show 0<=dt e.1 e.2 (xp (jaG A B C) a b) by omega);rw[<- f4] at g3;rcases xcw (dt e.1 e.2 (X a b)) 0 with q | q
   ·have:=xaA m0 q;omega
   ·exact q
 refine⟨R2,fun p pz=>⟨fun hp=>⟨fun e he=>?_,?_⟩,fun ⟨hp,h0⟩ e he=>?_⟩⟩
 ·rw[jhK];exact jj7 R2 hp pz fun v hv=>by rw[<- jhK];exact (inn v hv).1 e he
 ·exact jj7 R2 hp pz fun v hv=>(inn v hv).2
 ·rcases N e he with ⟨e',he',k,m,k0,m0,eq⟩ | ⟨z1,z2⟩
  ·have g:=xaJ (xbJ m0) (hp e' he');rw[<- eq p] at g;rcases xcw (dt e.1 e.2 p) 0 with q | q
   ·have:=xaA k0 q;omega
   ·exact q
  ·obtain⟨u,hu,pu⟩:=up;have um:u∈upL (jaG A B C) X vs:=by
    obtain⟨i,hi,rfl⟩:=jhH hu;refine xbN.mpr ⟨_,jmB hi,?_⟩;unfold upE;rw[if_pos (by show 0<=jaG A B C (tr vs i);omega)];exact xaK _ (by simp)
   have l:=jgu z1 z2 p u;have g:=xaJ h0 (R2.own um e he);rw[<- l] at g;rcases xcw (dt e.1 e.2 p) 0 with q | q
   ·have:=xa0 q pu;omega
   ·exact q
structure Ln where
 A:Int
 B:Int
 C:Int
def hf (l:Ln):Tri->Int:=jaG l.A l.B l.C
theorem jcj {l:Ln} (R:Rng vs) (up:∃v∈vs,0<hf l v):Rng (UP (hf l) vs)/\∀p:Tri,1<=p.z->(InR (UP (hf l) vs) p↔InR vs p/\0<=hf l p):=by
 rw[jbZ up];exact jiu R (fun a b ha hb o=>jfd (R.hz a ha) (R.hz b hb) o) up
theorem Rng.ne (R:Rng us):us≠[]:=fun e=>by have:=R.n3;rw[e] at this;simp at this
theorem jnO (hv:v∈upL h X vs):(v∈vs/\0<=h v)\/∃e∈prs vs,h e.1*h e.2<0/\v=X e.1 e.2:=by
 obtain⟨e,he,hv⟩:=xbN.mp hv;unfold upE at hv;rcases xaz.mp hv with h1 | h1
 ·by_cases c:0<=h e.1
  ·rw[if_pos c,xam] at h1;subst h1;exact .inl ⟨(jdV he).1,c⟩
  ·rw[if_neg c] at h1;cases h1
 ·by_cases c:h e.1*h e.2<0
  ·rw[if_pos c,xam] at h1;exact .inr ⟨e,he,c,h1⟩
  ·rw[if_neg c] at h1;cases h1
structure BI (b:Nat) (vs:List Tri):Prop where
 ed:∀e∈prs vs,∃l:Ln,Bd b l.A/\Bd b l.B/\Bd b l.C/\hf l e.1=0/\hf l e.2=0/\∃q,hf l q≠0
 vb:∀v∈vs,v.bd (b+b+1)
theorem jj8 (hz:1<=v.z):gl [(jgQ v).x,(jgQ v).y,(jgQ v).z]=1:=by
 have g0:0<gl [v.x,v.y,v.z]:=jd0 (n:=v.z) (by simp) (by omega);have d:∀n∈[v.x,v.y,v.z],gl [v.x,v.y,v.z]*(n / gl [v.x,v.y,v.z])=n:=fun n hn=>xa9 (jaT hn);have e:=jmp g0 [(jgQ v).x,(jgQ v).y,(jgQ v).z];have e2:[(jgQ v).x,(jgQ v).y,(jgQ v).z].map (gl [v.x,v.y,v.z]*·)=[v.x,v.y,v.z]:=by
  simp only[xay,xcp,jgQ];rw[d v.x (by simp),d v.y (by simp),d v.z (by simp)]
 rw[e2] at e;have:gl [v.x,v.y,v.z]*(gl [(jgQ v).x,(jgQ v).y,(jgQ v).z]-1)=0:=by rw[Int.mul_sub];omega
 rcases xaI.mp this with q | q<;>omega
theorem prim3 {z b:Int} (g:gl [x,y,z]=1) (n:¬(a=0/\b=0/\c=0)) (h1:a*y=b*x) (h2:b*z=c*y) (h3:a*z=c*x):x.natAbs<=a.natAbs/\y.natAbs<=b.natAbs/\z.natAbs<=c.natAbs:=by
 have dv:∀{k m:Int},k ∣ m*x->k ∣ m*y->k ∣ m*z->k ∣ m:=fun {k m} d1 d2 d3=>by
  have:=jeH [x,y,z] 0 k m (by rw[xbj];exact Int.dvd_zero k) (fun q hq=>by
   simp only[xap,xbY,or_false] at hq;rcases hq with rfl | rfl | rfl
   ·exact d1
   ·exact d2
   ·exact d3)
  have e:m*G 0 [x,y,z]=m:=by
   show m*gl [x,y,z]=m;rw[g,xbO]
  rw[e] at this;exact this
 have le:∀{k m:Int},k ∣ m->(m=0->k=0)->k.natAbs<=m.natAbs:=fun {k m} d z=>by
  by_cases m0:m=0
  ·rw[z m0,m0];exact xae _
  ·exact Nat.le_of_dvd (by omega) (xcf.mpr d)
 have kz:∀{p q:Int},p≠0->p*q=0->q=0:=fun hp h=>(xaI.mp h).resolve_left hp;refine⟨le (dv ⟨a,by rw[xbf]⟩ ⟨b,by rw[h1,xbf]⟩ ⟨c,by rw[h3,xbf]⟩) fun e=>?_,le (dv ⟨a,by rw[<- h1,xbf]⟩ ⟨b,by rw[xbf]⟩ ⟨c,by rw[h2,xbf]⟩) fun e=>?_,le (dv ⟨a,by rw[<- h3,xbf]⟩ ⟨b,by rw[<- h2,xbf]⟩ ⟨c,by rw[xbf]⟩) fun e=>?_⟩
 ·subst e;rw[xbg] at h1 h3;by_cases b0:b=0
  ·exact kz (show c≠0 from fun q=>n ⟨rfl,b0,q⟩) h3.symm
  ·exact kz b0 h1.symm
 ·subst e;rw[xbg] at h1 h2;by_cases a0:a=0
  ·exact kz (show c≠0 from fun q=>n ⟨a0,rfl,q⟩) h2.symm
  ·exact kz a0 h1
 ·subst e;rw[xbg] at h2 h3;by_cases a0:a=0
  ·exact kz (show b≠0 from fun q=>n ⟨a0,q,rfl⟩) h2
  ·exact kz a0 h3
theorem BI.up {b:Nat} {l:Ln} (R:Rng vs) (I:BI b vs) (lA:Bd b l.A) (lB:Bd b l.B) (lC:Bd b l.C) (up:∃v∈vs,0<hf l v):BI b (UP (hf l) vs):=by
 rw[jbZ up];have hX:∀a b,a∈vs->b∈vs->hf l a*hf l b<0->Prp (xp (hf l) a b) (bt (hf l) a b):=fun a b ha hb o=>jfd (R.hz a ha) (R.hz b hb) o;have N:=jpF (A:=l.A) (B:=l.B) (C:=l.C) R.hz hX up;refine⟨fun e he=>?_,fun v hv=>?_⟩
 ·rcases N e he with ⟨e',he',k,m,k0,m0,eq⟩ | ⟨z1,z2⟩
  ·obtain⟨l',b1,b2,b3,q1,q2,nz⟩:=I.ed e' he';obtain⟨i,hi,rfl⟩:=jj5 he';have n3:=R.n3;obtain⟨j,hj,j1,j2⟩:=jbd (n:=vs.length) (i:=i) (j:=(i+1) % vs.length) n3;have pos:=jeh R.tp n3 hi hj (Ne.symm j2) (Ne.symm j1);have on:∀a:Tri,dt e.1 e.2 a=0->hf l' a=0:=fun a ha=>by
    have h1:=eq a;rw[ha,xbj] at h1;have h2:=(xaI.mp h1.symm).resolve_left (by omega);have h3:=jgu q1 q2 a (tr vs j);simp only at h2 h3;rw[h2,xbg] at h3;exact (xaI.mp h3.symm).resolve_right (by omega)
   exact⟨l',b1,b2,b3,on _ (jcX _ _).2.2,on _ (jcX _ _).2.1,nz⟩
  ·obtain⟨u,_,pu⟩:=up;exact⟨l,lA,lB,lC,z1,z2,u,by omega⟩
 ·rcases jnO hv with ⟨h,_⟩ | ⟨e,he,o,rfl⟩
  ·exact I.vb v h
  ·obtain⟨l',b1,b2,b3,q1,q2,⟨q,nz⟩⟩:=I.ed e he;obtain⟨m1,m2⟩:=jdV he;have xz:=xp_z (h:=hf l) (R.hz _ m1) (R.hz _ m2) o;have p:=hX _ _ m1 m2 o;have r1:hf l (bt (hf l) e.1 e.2)=0:=jfJ p (jfN o);have r2:hf l' (bt (hf l) e.1 e.2)=0:=jfJ p (by
    unfold xp jfa;have:jaG l'.A l'.B l'.C e.1=0:=q1;have:jaG l'.A l'.B l'.C e.2=0:=q2;generalize ab (hf l e.2)=s at *
    generalize ab (hf l e.1)=t at *
    unfold jaG at *
    grind)
   have g:=jj8 xz;have ne:¬(l'.B*l.C-l'.C*l.B=0/\l'.C*l.A-l'.A*l.C=0/\l'.A*l.B-l'.B*l.A=0):=fun ⟨z1,z2,z3⟩=>by
    have k1:hf l e.1*hf l' q=hf l' e.1*hf l q:=by
     unfold hf jaG;grind
    rw[q1,xbg] at k1;rcases xaI.mp k1 with w | w
    ·exact (jdg o).1 w
    ·exact nz w
   change jaG _ _ _ _=0 at r1 r2;have gg:gl [(bt (hf l) e.1 e.2).x,(bt (hf l) e.1 e.2).y,(bt (hf l) e.1 e.2).z]=1:=g;generalize bt (hf l) e.1 e.2=w at r1 r2 gg |-
   unfold jaG at r1 r2;obtain⟨c1,c2,c3⟩:=prim3 gg ne (by grind) (by grind) (by grind);have cb:∀{i j k m:Int},Bd b i->Bd b j->Bd b k->Bd b m->Bd (b+b+1) (i*j-k*m):=fun h1 h2 h3 h4=>Bd.sub (Bd.mul h1 h2) (Bd.mul h3 h4);exact⟨jnr c1 (cb b2 lC b3 lB),jnr c2 (cb b3 lA b1 lC),jnr c3 (cb b1 lB b2 lA)⟩
structure VF (vs:List Tri):Prop where
 rg:Rng vs
 bi:BI 110 vs
theorem jhL {l:Ln} (R:Rng vs):(UP (hf l) vs).length<=vs.length+1:=by
 by_cases up:∃v∈vs,0<hf l v
 ·rw[jbZ up];exact jnF (fun a b ha hb o=>jfd (R.hz a ha) (R.hz b hb) o) R.tp
 ·rw[jd8 up];exact xaG _
theorem VF.up {l:Ln} (F:VF vs) (lA:Bd 110 l.A) (lB:Bd 110 l.B) (lC:Bd 110 l.C) (up:∃v∈vs,0<hf l v):VF (UP (hf l) vs):=⟨(jcj F.rg up).1,F.bi.up F.rg lA lB lC up⟩
theorem VF.six (R:Rng vs) (b:∀v∈vs,v.bd 6):VF vs:=by
 refine⟨R,fun e he=>?_,fun v hv=>jfM (b v hv)⟩;obtain⟨m1,m2⟩:=jdV he;obtain⟨i,hi,rfl⟩:=jj5 he;have n3:=R.n3;obtain⟨j,hj,j1,j2⟩:=jbd (n:=vs.length) (i:=i) (j:=(i+1) % vs.length) n3;have pos:=jeh R.tp n3 hi hj (Ne.symm j2) (Ne.symm j1);have b1:=b _ m1;have b2:=b _ m2;simp only at b1 b2 pos |-
 generalize tr vs i=a at *
 generalize tr vs ((i+1) % vs.length)=c at *
 have cb:∀{i j k m:Int},Bd 6 i->Bd 6 j->Bd 6 k->Bd 6 m->Bd 110 (i*j-k*m):=fun h1 h2 h3 h4=>Bd.mono (n:=13) (Bd.sub (n:=12) (Bd.mul h1 h2) (Bd.mul h3 h4));refine⟨⟨a.y*c.z-a.z*c.y,a.z*c.x-a.x*c.z,a.x*c.y-a.y*c.x⟩,cb b1.2.1 b2.2.2 b1.2.2 b2.2.1,cb b1.2.2 b2.1 b1.1 b2.2.2,cb b1.1 b2.2.1 b1.2.1 b2.1,(jcX a c).2.2,(jcX a c).2.1,tr vs j,?_⟩;have:hf ⟨a.y*c.z-a.z*c.y,a.z*c.x-a.x*c.z,a.x*c.y-a.y*c.x⟩ (tr vs j)=dt a c (tr vs j):=rfl;omega
def BdAt (H:Hp) (Z:Sht) (r:Addr) (us:List Tri):Prop:=∃rs:List Addr,H r=some (.tup (rs.map V.ref))/\Sps H rs (frm (us.map (spt Z)) (us.map (spt Z)))
theorem BdAt.keep (h:BdAt H Z r us) (s:SameT H H'):BdAt H' Z r us:=by
 obtain⟨rs,h1,h2⟩:=h;exact⟨rs,s _ _ h1,h2.keep s⟩
def PtAt (H:Hp) (Z:Sht) (f:V) (us:List Tri):Prop:=(us=[]/\f=.non)\/(us≠[]/\∃r:Addr,f=.ref r/\BdAt H Z r us)
def jc5 (Z:Sht) (p:Pt):Ln:=⟨lnA Z p.x p.y p.z,lnB Z p.x p.y p.z,lnC Z p.x p.y p.z p.w⟩
theorem jhM {K:List Pt} (R:Rng us) (n17:us.length<=17) (hw:1<=Z.w) (nz:Z.u.nz) (r:RR (us.map (spt Z)) K):frm K K=frm (us.map (spt Z)) (us.map (spt Z)):=by
 have ln:(us.map (spt Z)).length=us.length:=xaa _;have n3:=R.n3;exact jpC (jlK hw nz R.n3 R.tp R.hz) (by omega) (by omega) r
theorem jlN {E:XK} {b g:Addr} (F:VF vs) (hw:1<=Z.w) (nz:Z.u.nz) (n16:vs.length<=16) (bs:∀u∈vs,(spt Z u).bd 252) (bp:p.bd 100) (bA:Bd 110 (jc5 Z p).A) (bB:Bd 110 (jc5 Z p).B) (bC:Bd 110 (jc5 Z p).C)
  (hb:BdAt H Z b vs) (hg:Is4 H g p)
  (q:∀(t:Addr) (H':Hp) (f0 f1:V),Same H H'->H' t=some (.tup [f0,f1])->PtAt H' Z f0 (UP (hf (jc5 Z ⟨-p.x,-p.y,-p.z,-p.w⟩)) vs)->PtAt H' Z f1 (UP (hf (jc5 Z p)) vs)->Q (.ref t) H'):jgp [.ref b,.ref g] H Q E:=by
 obtain⟨rs,hb,hs⟩:=hb;obtain⟨x,y,z,v⟩:=p;obtain⟨bx,by',bz,bv⟩:=bp;have r:RR (vs.map (spt Z)) (frm (vs.map (spt Z)) (vs.map (spt Z))):=jeI _ _;have hs0:=hs;generalize ep:frm (vs.map (spt Z)) (vs.map (spt Z))=ps at r hs;have ln:(vs.map (spt Z)).length=vs.length:=xaa _;have pl:ps.length=vs.length:=by rw[r.len,ln]
 have n3:=F.rg.n3;have mem:∀i,i<ps.length->∃u∈vs,pt ps i=spt Z u:=fun i hi=>by
  obtain⟨u,hu,e⟩:=xax.mp (r.mem.mp (jbk hi));exact⟨u,hu,e.symm⟩
 have mem':∀u∈vs,∃i,i<ps.length/\pt ps i=spt Z u:=fun u hu=>jhA (r.mem.mpr (xax.mpr ⟨u,hu,rfl⟩));have hz:=F.rg.hz;have sg:=fun u (hu:u∈vs)=>jce (x:=x) (y:=y) (z:=z) (v:=v) (Z:=Z) (a:=u) hw (hz u hu);have wp:∀p∈ps,1<=p.w:=fun p hp=>by
  obtain⟨u,hu,e⟩:=xax.mp (r.mem.mp hp);rw[<- e];exact jgn hw (hz u hu)
 have hX:∀{x y z v:Int},∀a b,a∈vs->b∈vs->hL Z x y z v a*hL Z x y z v b<0->Prp (xp (hL Z x y z v) a b) (bt (hL Z x y z v) a b):=fun {x y z v} a b ha hb o=>jfd (hz a ha) (hz b hb) o;have eh:hf (jc5 Z ⟨x,y,z,v⟩)=hL Z x y z v:=rfl;have eh':hf (jc5 Z ⟨-x,-y,-z,-v⟩)=hL Z (-x) (-y) (-z) (-v):=rfl;rw[eh'] at q;change ∀(t:Addr) (H':Hp) (f0 f1:V),Same H H'->H' t=some (.tup [f0,f1])->PtAt H' Z f0 (UP (hL Z (-x) (-y) (-z) (-v)) vs)->PtAt H' Z f1 (UP (hL Z x y z v) vs)->Q (.ref t) H' at q;have ng:∀u,hL Z (-x) (-y) (-z) (-v) u=-hL Z x y z v u:=fun u=>jj4 ..;have ne:vs≠[]:=F.rg.ne;refine⟨100,252,b,g,rs,ps,x,y,z,v,rfl,by decide,hb,hs,by omega,by omega,fun i hi=>?_,hg.1,bx,by',bz,bv,?_⟩
 ·obtain⟨u,hu,e⟩:=mem i hi;rw[e];exact⟨bs u hu,jgn hw (hz u hu)⟩
 by_cases up:∃u∈vs,0<hL Z x y z v u
 ·obtain⟨u,hu,pu⟩:=up;obtain⟨i,hi,ei⟩:=mem' u hu;by_cases dn:∃u∈vs,hL Z x y z v u<0
  ·obtain⟨d,hd,pd⟩:=dn;obtain⟨j,hj,ej⟩:=mem' d hd;have up':∃u∈vs,0<hf (jc5 Z ⟨x,y,z,v⟩) u:=⟨u,hu,pu⟩;have dn':∃u∈vs,0<hf (jc5 Z ⟨-x,-y,-z,-v⟩) u:=⟨d,hd,by
    show 0<hL Z (-x) (-y) (-z) (-v) d;rw[jj4];omega⟩
   have F1:=(jcj F.rg up').1;have F2:=(jcj F.rg dn').1;have l3:=jhL (l:=jc5 Z ⟨x,y,z,v⟩) F.rg;have l4:=jhL (l:=jc5 Z ⟨-x,-y,-z,-v⟩) F.rg;have a1:=F1.n3;have a3:=F2.n3;have R1:=jgs hw hz hX r (x:=x) (y:=y) (z:=z) (v:=v);have R2:=jgs hw hz hX r (x:=-x) (y:=-y) (z:=-z) (v:=-v);rw[<- jnL wp] at R2;have l1:=R1.len;have l2:=R2.len;rw[xaa] at l1 l2;rw[jbZ up'] at F1 l3 a1;rw[jbZ dn'] at F2 l4 a3;change Rng (upL (hL Z x y z v) (bt (hL Z x y z v)) vs) at F1;change (upL (hL Z x y z v) (bt (hL Z x y z v)) vs).length<=_ at l3;change 3<=(upL (hL Z x y z v) (bt (hL Z x y z v)) vs).length at a1;change (upL (hL Z (-x) (-y) (-z) (-v)) (bt (hL Z (-x) (-y) (-z) (-v))) vs).length<=_ at l4;change 3<=(upL (hL Z (-x) (-y) (-z) (-v)) (bt (hL Z (-x) (-y) (-z) (-v))) vs).length at a3;refine .inr (.inr (.inr ⟨⟨i,hi,by rw[ei];exact (sg u hu).1.mpr pu⟩,⟨j,hj,by rw[ej];exact (sg d hd).2.mpr pd⟩,by omega,by omega,by omega,by omega,fun t H' c1 c2 r1 r2 s' e1 e2 h2 e3 h3=>?_⟩));refine q t H' _ _ s' e1 (.inr ⟨?_,c1,rfl,r1,e2,?_⟩) (.inr ⟨?_,c2,rfl,r2,e3,?_⟩)
   ·rw[jbZ (show ∃u∈vs,0<hL Z (-x) (-y) (-z) (-v) u from dn')];exact F2.ne
   ·rw[jbZ (show ∃u∈vs,0<hL Z (-x) (-y) (-z) (-v) u from dn'),<- jhM (show Rng (upL (hL Z (-x) (-y) (-z) (-v)) (bt (hL Z (-x) (-y) (-z) (-v))) vs) from F2) (by omega) hw nz R2];exact h2
   ·rw[jbZ ⟨u,hu,pu⟩];exact F1.ne
   ·rw[jbZ ⟨u,hu,pu⟩,<- jhM F1 (by omega) hw nz R1];exact h3
  ·refine .inr (.inl ⟨fun k hk=>?_,⟨i,hi,by rw[ei];exact (sg u hu).1.mpr pu⟩,fun t H' s' e'=>q t H' _ _ s' e' (.inl ⟨jd8 fun ⟨c,hc,h⟩=>dn ⟨c,hc,by rw[ng] at h;omega⟩,rfl⟩) (.inr ⟨?_,b,rfl,rs,s' _ _ hb,?_⟩)⟩)
   ·obtain⟨c,hc,e⟩:=mem k hk;rw[e];have:=(sg c hc).2;have:¬hL Z x y z v c<0:=fun h=>dn ⟨c,hc,h⟩;omega
   ·rw[jbZ ⟨u,hu,pu⟩,jhI fun c hc=>by
     have:¬hL Z x y z v c<0:=fun h=>dn ⟨c,hc,h⟩;omega]
    exact ne
   ·rw[jbZ ⟨u,hu,pu⟩,jhI fun c hc=>by
     have:¬hL Z x y z v c<0:=fun h=>dn ⟨c,hc,h⟩;omega]
    exact hs0.keep s'.t
 ·have z0:UP (hL Z x y z v) vs=[]:=jd8 up;by_cases dn:∃u∈vs,hL Z x y z v u<0
  ·obtain⟨d,hd,pd⟩:=dn;obtain⟨j,hj,ej⟩:=mem' d hd;refine .inr (.inr (.inl ⟨fun k hk=>?_,⟨j,hj,by rw[ej];exact (sg d hd).2.mpr pd⟩,fun t H' s' e'=>q t H' _ _ s' e' (.inr ⟨?_,b,rfl,rs,s' _ _ hb,?_⟩) (.inl ⟨z0,rfl⟩)⟩));rotate_left
   ·rw[jbZ ⟨d,hd,by rw[ng];omega⟩,jhI fun c hc=>by
     have:¬0<hL Z x y z v c:=fun h=>up ⟨c,hc,h⟩;rw[ng];omega]
    exact ne
   ·rw[jbZ ⟨d,hd,by rw[ng];omega⟩,jhI fun c hc=>by
     have:¬0<hL Z x y z v c:=fun h=>up ⟨c,hc,h⟩;rw[ng];omega]
    exact hs0.keep s'.t
   obtain⟨c,hc,e⟩:=mem k hk;rw[e];have:=(sg c hc).1;have:¬0<hL Z x y z v c:=fun h=>up ⟨c,hc,h⟩;omega
  ·refine .inl ⟨fun k hk=>?_,fun t H' s' e'=>q t H' _ _ s' e' (.inl ⟨jd8 fun ⟨c,hc,h⟩=>dn ⟨c,hc,by rw[ng] at h;omega⟩,rfl⟩) (.inl ⟨z0,rfl⟩)⟩;obtain⟨c,hc,e⟩:=mem k hk;rw[e];have h1:=(sg c hc).1;have h2:=(sg c hc).2;have:¬0<hL Z x y z v c:=fun h=>up ⟨c,hc,h⟩;have:¬hL Z x y z v c<0:=fun h=>dn ⟨c,hc,h⟩;omega
def PlOk (Z:Sht) (p:Pt):Prop:=p.bd 100/\Bd 110 (jc5 Z p).A/\Bd 110 (jc5 Z p).B/\Bd 110 (jc5 Z p).C
theorem jhN (hw:1<=Z.w) (nz:Z.u.nz) (R:Rng vs) (n8:vs.length<=8):Brd (vs.map (spt Z)):=by
 have ln:(vs.map (spt Z)).length=vs.length:=xaa _;have n3:=R.n3;have pl:∀a,a<vs.length->(tr vs a).pl:=fun a ha=>R.hz _ (jdH ha);have d012:=R.tp 0 1 2 (by decide) (by decide) (by omega);refine⟨by omega,by omega,?_,?_,?_⟩
 ·rw[jbl (by omega),jbl (by omega),jbl (by omega)];exact jdG hw nz (by omega)
 ·intro i hi;rw[jbl (by omega),jbl (by omega),jbl (by omega),jbl (by omega)];exact jlw hw (pl _ (by omega)) (pl _ (by omega)) (pl _ (by omega)) (pl _ (by omega))
 ·intro k k0 k2 _ i j hi j1 jn;rw[ln] at hi jn |-
  have m1:(i+(vs.length-1)) % vs.length<vs.length:=xaL _ (by omega);have m2:(i+j) % vs.length<vs.length:=xaL _ (by omega);rw[jbl m1,jbl hi,jbl m2,jbl (by omega),jbl (by omega),jbl (by omega)];have pos:=jeh (i:=(i+(vs.length-1)) % vs.length) (k:=(i+j) % vs.length) R.tp n3 m1 m2 (by
   by_cases c:i+j<vs.length
   ·rw[xah c];by_cases d:i=0
    ·subst d;rw[xbC,xbC,xah (by omega)];omega
    ·rw[show i+(vs.length-1)=i-1+vs.length by omega,xa7,xah (by omega)];omega
   ·rw[show i+j=i+j-vs.length+vs.length by omega,xa7,xah (by omega),show i+(vs.length-1)=i-1+vs.length by omega,xa7,xah (by omega)];omega) (by
   rw[jgt hi];by_cases c:i+j<vs.length
   ·rw[xah c];omega
   ·rw[show i+j=i+j-vs.length+vs.length by omega,xa7,xah (by omega)];omega)
  rw[jgt hi] at pos;rw[jjH hw (pl _ m1) (pl _ hi) (pl _ m2) pos k0 k2,jjH hw (pl _ (by omega)) (pl _ (by omega)) (pl _ (by omega)) d012 k0 k2]
theorem jpG:∀n,n<10->3<=n->∀a,a<n->(a+0) % n≠(a+1) % n/\(a+1) % n≠(a+2) % n/\(a+0) % n≠(a+2) % n:=by decide +kernel
theorem jpH:∀n,n<10->3<=n->∀a,a<n->(a+(n-0)) % n≠(a+(n-1)) % n/\(a+(n-1)) % n≠(a+(n-2)) % n/\(a+(n-0)) % n≠(a+(n-2)) % n:=by decide +kernel
theorem jnP (hw:1<=Z.w) (nz:Z.u.nz) (R:Rng us) (n9:us.length<=9) (r:RR (us.map (spt Z)) ps):¬jbW (pt ps 0) (pt ps 1) (pt ps 2):=by
 have ln:(us.map (spt Z)).length=us.length:=xaa _;have n3:=R.n3;obtain⟨hl,a,ha,d⟩:=r.dih (by omega) (by omega);rw[ln] at ha d;have i1:=jpG us.length (by omega) n3 a ha;have i2:=jpH us.length (by omega) n3 a ha;have md:∀i,i % us.length<us.length:=fun i=>xaL _ (by omega);rcases d with d | d
 ·rw[d 0 (by omega),d 1 (by omega),d 2 (by omega),jbl (md _),jbl (md _),jbl (md _)];exact jdG hw nz (jnM R.tp (md _) (md _) (md _) i1.1 i1.2.1 i1.2.2)
 ·rw[d 0 (by omega),d 1 (by omega),d 2 (by omega),jbl (md _),jbl (md _),jbl (md _)];exact jdG hw nz (jnM R.tp (md _) (md _) (md _) i2.1 i2.2.1 i2.2.2)
theorem jfe {f:Tri->Tri} (h:i<vs.length):tr (vs.map f) i=f (tr vs i):=by
 unfold tr;rw[xac,xaf,xac,xab h];rfl
theorem Rng.mp {f:Tri->Tri} {k:Int} (R:Rng vs) (k0:0<k) (hd:∀a b c,dt (f a) (f b) (f c)=k*dt a b c) (hz:∀v,1<=v.z->1<=(f v).z):Rng (vs.map f):=by
 refine⟨by rw[xaa];exact R.n3,?_,fun v hv=>?_⟩
 ·intro a b c h1 h2 h3;rw[xaa] at h3;rw[jfe (by omega),jfe (by omega),jfe h3,hd];exact xaq k0 (R.tp a b c h1 h2 h3)
 ·obtain⟨u,hu,rfl⟩:=xax.mp hv;exact hz u (R.hz u hu)
theorem PtAt.keep {f:V} (h:PtAt H Z f us) (s:SameT H H'):PtAt H' Z f us:=by
 rcases h with h | ⟨h1,r,h2,h3⟩
 ·exact .inl h
 ·exact .inr ⟨h1,r,h2,h3.keep s⟩
theorem jj9 {b:Int} (hp:plb a b c=true):plb (-a) (-b) (-c)=false:=by
 by_cases ha:a=0
 ·by_cases hb:b=0
  ·by_cases hc:c=0
   ·simp [plb,ha,hb,hc] at hp
   ·simp [plb,ha,hb,hc] at hp |-
    omega
  ·simp [plb,ha,hb] at hp |-
   omega
 ·simp [plb,ha] at hp |-
  omega
theorem jnQ (ns:List Int):low (ns.map fun n=>-n)=(low ns).map fun n=>-n:=by
 unfold low;rw[jmj,xaO,xaO];refine xbZ fun n hn=>?_;show -n / gl ns=-(n / gl ns);exact Int.neg_ediv_of_dvd (jaT hn)
theorem jnR {b:Int} (h:¬(a=0/\b=0/\c=0)):pln [-a,-b,-c,-d]=pln [a,b,c,d]:=by
  have gp:=gl4 (d:=d) h;have e:low [-a,-b,-c,-d]=(low [a,b,c,d]).map fun n=>-n:=jnQ [a,b,c,d];have nz:¬(a / gl [a,b,c,d]=0/\b / gl [a,b,c,d]=0/\c / gl [a,b,c,d]=0):=fun z=>by
    have g:∀{x:Int},x∈[a,b,c,d]->x / gl [a,b,c,d]=0->x=0:=fun hx z=>xal fun q=>jeu (jaT hx) q z;exact h ⟨g (by simp) z.1,g (by simp) z.2.1,g (by simp) z.2.2⟩
  unfold pln;rw[e];have el:low [a,b,c,d]=[a / gl [a,b,c,d],b / gl [a,b,c,d],c / gl [a,b,c,d],d / gl [a,b,c,d]]:=rfl;rw[el];generalize a / gl [a,b,c,d]=x at nz;generalize b / gl [a,b,c,d]=y at nz;generalize c / gl [a,b,c,d]=z at nz;generalize d / gl [a,b,c,d]=w;show (if plb (-x) (-y) (-z)=true then [-x,-y,-z,-w] else [- -x,- -y,- -z,- -w])=(if plb x y z=true then [x,y,z,w] else [-x,-y,-z,-w]);cases eb:plb x y z with
  | true =>
    rw[jj9 eb,if_neg (by decide),if_pos rfl];simp
  | false =>
    rw[jjy nz eb,if_pos rfl,if_neg (by decide)]
theorem jnS {k b:Int} (hk:k≠0) (h:¬(a=0/\b=0/\c=0)):pln [k*a,k*b,k*c,k*d]=pln [a,b,c,d]:=by
 have pos:∀{k:Int},0<k->pln [k*a,k*b,k*c,k*d]=pln [a,b,c,d]:=fun {k} hk=>by
  have e:low [k*a,k*b,k*c,k*d]=low [a,b,c,d]:=jfD hk [a,b,c,d];unfold pln;rw[e]
 rcases Int.lt_or_gt_of_ne hk with n | p
 ·have e:pln [k*a,k*b,k*c,k*d]=pln [-k*a,-k*b,-k*c,-k*d]:=by
   have nz:¬(-k*a=0/\-k*b=0/\-k*c=0):=fun z=>by
    have f:∀{i:Int},-k*i=0->i=0:=fun e=>(xaI.mp e).resolve_left (by omega);exact h ⟨f z.1,f z.2.1,f z.2.2⟩
   have z:=jnR (d:=-k*d) nz;rw[<- z];simp only[xcb,xcm]
  rw[e];exact pos (by omega)
 ·exact pos p
theorem jnT (a b:Int):Int.gcd b (a % b)=Int.gcd a b:=by
 have h1:((Int.gcd b (a % b):Nat):Int) ∣ (Int.gcd a b:Nat):=xbI (by
  have z:((Int.gcd b (a % b):Nat):Int) ∣ b*(a / b)+a % b:=Int.dvd_add (xbB (xbz ..) (Int.dvd_mul_right _ _)) (xbv ..);rw[Int.mul_ediv_add_emod] at z;exact z) (xbz ..)
 have h2:((Int.gcd a b:Nat):Int) ∣ (Int.gcd b (a % b):Nat):=xbI (xbv ..) (by
  rw[Int.emod_def];exact Int.dvd_sub (xbz ..) (xbB (xbv ..) (Int.dvd_mul_right _ _)))
 exact Nat.dvd_antisymm (Int.natCast_dvd_natCast.mp h1) (Int.natCast_dvd_natCast.mp h2)
theorem gcd4 (x y z w:Int):((Int.gcd (Int.gcd x y:Nat) (Int.gcd z w:Nat):Nat):Int)=gl [x,y,z,w]:=by
 have p1:((Int.gcd (Int.gcd x y:Nat) (Int.gcd z w:Nat):Nat):Int) ∣ (Int.gcd x y:Nat):=xbz ..;have p2:((Int.gcd (Int.gcd x y:Nat) (Int.gcd z w:Nat):Nat):Int) ∣ (Int.gcd z w:Nat):=xbv ..;have d:((Int.gcd (Int.gcd x y:Nat) (Int.gcd z w:Nat):Nat):Int) ∣ gl [x,y,z,w]:=je2 fun n hn=>by
  simp only[xap,xbY,or_false] at hn;rcases hn with rfl | rfl | rfl | rfl
  ·exact xbB p1 (xbz ..)
  ·exact xbB p1 (xbv ..)
  ·exact xbB p2 (xbz ..)
  ·exact xbB p2 (xbv ..)
 have d':gl [x,y,z,w] ∣ ((Int.gcd (Int.gcd x y:Nat) (Int.gcd z w:Nat):Nat):Int):=xbI (xbI (jaT (by simp)) (jaT (by simp))) (xbI (jaT (by simp)) (jaT (by simp)));exact Int.dvd_antisymm (by omega) (jbh _) d d'
def Mk (σ:L2.St) (te:TE) (φ:V->Hp->Prop):Prop:=∀H R,(∀v H',Same H H'->φ v H'->R v H')->te σ H R
def MkA (σ:L2.St) (ta:TA) (φ:List V->Hp->Prop):Prop:=∀H R,(∀v H',Same H H'->φ v H'->R v H')->ta σ H R
inductive PrP (H:Hp):List Addr->List (Int × Int)->Prop
 | nil:PrP H [] []
 | cons {r:Addr} {p:Int × Int} {rs:List Addr} {ps:List (Int × Int)}:H r=some (.tup [.int p.1,.int p.2])->PrP H rs ps->PrP H (r::rs) (p::ps)
theorem PrP.len {rs:List Addr} {ps:List (Int × Int)} (h:PrP H rs ps):rs.length=ps.length:=by
 induction h with
 | nil=>rfl
 | cons _ _ ih=>rw[xaw,xaw,ih]
theorem PrP.keep {rs:List Addr} {ps:List (Int × Int)} (h:PrP H rs ps) (s:SameT H H'):PrP H' rs ps:=by
 induction h with
 | nil=>exact .nil
 | cons e _ ih=>exact .cons (s _ _ e) ih
def IsP (p:Int × Int) (v:V) (H:Hp):Prop:=∃r,v=.ref r/\H r=some (.tup [.int p.1,.int p.2])
def RowA (ps:List (Int × Int)) (vs:List V) (H:Hp):Prop:=∃rs:List Addr,vs=rs.map V.ref/\PrP H rs ps
def IsL (ps:List (Int × Int)) (v:V) (H:Hp):Prop:=∃(l:Addr) (rs:List Addr),v=.ref l/\H l=some (.lst (rs.map V.ref))/\PrP H rs ps
def TabA:List (List (Int × Int))->List V->Hp->Prop
 | [],vs,_=>vs=[]
 | ps::pss,vs,H=>∃v ws,vs=v::ws/\IsL ps v H/\TabA pss ws H
theorem IsL.keep {ps:List (Int × Int)} {v:V} (h:IsL ps v H) (s:Same H H'):IsL ps v H':=by
 obtain⟨l,rs,rfl,h1,h2⟩:=h;exact⟨l,rs,rfl,s _ _ h1,h2.keep s.t⟩
theorem TabA.len:∀{pss:List (List (Int × Int))} {vs:List V} {H:Hp},TabA pss vs H->vs.length=pss.length
 | [],_,_,h=>by cases h;rfl
 | _::_,_,_,⟨_,_,e,_,h⟩=>by rw[e,xaw,xaw,h.len]
theorem TabA.keep:∀{pss:List (List (Int × Int))} {vs:List V} {H H':Hp},TabA pss vs H->Same H H'->TabA pss vs H'
 | [],_,_,_,h,_=>h
 | _::_,_,_,_,⟨v,ws,e,h1,h⟩,s=>⟨v,ws,e,h1.keep s,h.keep s⟩
theorem TabA.get:∀{pss:List (List (Int × Int))} {vs:List V} {H:Hp} {i:Nat},TabA pss vs H->i<pss.length->∃v,vs[i]?=some v/\IsL (pss.getD i []) v H
  | _::_,_,_,0,⟨v,ws,e,h1,_⟩,_=>⟨v,by rw[e];rfl,h1⟩
  | _ :: _, _, _, i + 1, ⟨v, ws, e, _, h⟩, hi => by
    obtain⟨u,h1,h2⟩:=h.get (i:=i) (Nat.lt_of_succ_lt_succ hi);exact⟨u,by rw[e];exact h1,h2⟩
def MkI (σ:L2.St) (te:TE) (a:Int):Prop:=∀H R,R (.int a) H->te σ H R
theorem jow :MkI σ (tC (.int a)) a:=fun _ _ h=>h
theorem jfO :MkA σ jkQ (RowA []):=fun H R q=>q _ _ (fun _ _ z=>z) ⟨[],rfl,.nil⟩
variable {ta:TA}
theorem jeJ {p:Int × Int} {ps:List (Int × Int)} (h:Mk σ te (IsP p)) (k:MkA σ ta (RowA ps)):MkA σ (jeQ te ta) (RowA (p::ps)):=fun H R q=>h H _ fun v H1 s1 ⟨r,e,hr⟩=>k H1 _ fun ws H2 s2 ⟨rs,e',hs⟩=>q _ _ (s1.trans s2) ⟨r::rs,by rw[e,e'];rfl,.cons (s2 _ _ hr) hs⟩
theorem jka {ps:List (Int × Int)} (k:MkA σ ta (RowA ps)) (hl:ps.length<1000):Mk σ (jl3 ta) (IsL ps):=fun H R q=>k H _ fun vs H1 s1 ⟨rs,e,hs⟩=>by
 subst e;exact⟨xa1 (jaF (by rw[xaa,hs.len];exact hl)),fun p hp=>q _ _ (s1.trans (Same.new hp _)) ⟨p,rs,rfl,jaf,hs.keep (Same.new hp _).t⟩⟩
theorem jfP :MkA σ jkQ (TabA []):=fun H R q=>q _ _ (fun _ _ z=>z) rfl
theorem jeK {ps:List (Int × Int)} {pss:List (List (Int × Int))} (h:Mk σ te (IsL ps)) (k:MkA σ ta (TabA pss)):MkA σ (jeQ te ta) (TabA (ps::pss)):=fun H R q=>h H _ fun v H1 s1 hv=>k H1 _ fun ws H2 s2 hs=>q _ _ (s1.trans s2) ⟨v,ws,rfl,hv.keep s2,hs⟩
theorem jkb {pss:List (List (Int × Int))} (k:MkA σ ta (TabA pss)) (hl:pss.length<1000):Mk σ (jl3 ta) (fun v H=>∃(l:Addr) (vs:List V),v=.ref l/\H l=some (.lst vs)/\TabA pss vs H):=fun H R q=>k H _ fun vs H1 s1 hs =>
 ⟨xa1 (jaF (by rw[hs.len];exact hl)),fun p hp=>q _ _ (s1.trans (Same.new hp _)) ⟨p,vs,rfl,jaf,hs.keep (Same.new hp _)⟩⟩
theorem jgU {ta tb:TE} {b:Int} (ha:MkI σ ta a) (hb:MkI σ tb b):Mk σ (jm4 (jeQ ta (jeQ tb jkQ))) (IsP (a,b)):=fun H R q =>
 ha _ _ (hb _ _ ⟨xa1 (jaF (show 2<1000 by decide)),fun p hp=>q _ _ (Same.new hp _) ⟨p,rfl,jaf⟩⟩)
section
variable {α β:Type} {R R':α->β->Prop}
inductive All2 {α β:Type} (R:α->β->Prop):List α->List β->Prop
 | nil:All2 R [] []
 | cons {a:α} {b:β} {as:List α} {bs:List β} (h:R a b) (t:All2 R as bs):All2 R (a::as) (b::bs)
theorem All2.len {as:List α} {bs:List β} (h:All2 R as bs):as.length=bs.length:=by
 induction h with
 | nil=>rfl
 | cons _ _ ih=>rw[xaw,xaw,ih]
theorem All2.mono {as:List α} {bs:List β} (h:All2 R as bs) (f:∀a b,R a b->R' a b):All2 R' as bs:=by
 induction h with
 | nil=>exact .nil
 | cons h _ ih=>exact .cons (f _ _ h) ih
theorem All2.app {as as':List α} {bs bs':List β} (h:All2 R as bs) (h':All2 R as' bs'):All2 R (as++as') (bs++bs'):=by
 induction h with
 | nil=>exact h'
 | cons h _ ih=>exact .cons h ih
theorem All2.get {as:List α} {bs:List β} (h:All2 R as bs):∀{i:Nat} {b:β},bs[i]?=some b->∃a,as[i]?=some a/\R a b:=by
  induction h with
  | nil=>intro i b e;cases e
  | cons h _ ih =>
    intro i b e;cases i with
    | zero=>cases e;exact⟨_,rfl,h⟩
    | succ i=>exact ih e
theorem All2.getA {as:List α} {bs:List β} (h:All2 R as bs):∀{i:Nat} {a:α},as[i]?=some a->∃b,bs[i]?=some b/\R a b:=by
  induction h with
  | nil=>intro i b e;cases e
  | cons h _ ih =>
    intro i b e;cases i with
    | zero=>cases e;exact⟨_,rfl,h⟩
    | succ i=>exact ih e
end
theorem jkc (h:j<n):ixN n (j:Int)=some j:=by
 unfold ixN;rw[if_pos (by omega),if_pos (by omega)];simp
def Sta (H:Hp) (L:Addr):Prop:=∃a b:Int,H L=some (.lst [.int a,.int b])/\0<=b/\b<2147483647
theorem Sta.keep (h:Sta H L) (s:Same H H'):Sta H' L:=by
 obtain⟨a,b,h1,h2⟩:=h;exact⟨a,b,s _ _ h1,h2⟩
theorem Sta.ne {b:Addr} (h:Sta H L) (n:H b=none):b≠L:=fun e=>by
 obtain⟨_,_,h1,_⟩:=h;rw[e,h1] at n;cases n
theorem Sta.tup {b:Addr} (h:Sta H L) (n:H b=some (.tup xs)):b≠L:=fun e=>by
 obtain⟨_,_,h1,_⟩:=h;rw[e,h1] at n;cases n
theorem Sta.t (h:Sta H L) (s:SameB L H H'):SameT H H':=fun b xs hb=>s b _ (h.tup hb) hb
def jox:Sp:=fun vs H Q _=>∃(L:Addr) (n:Int),vs=[.ref L,.int n]/\Sta H L/\0<n/\n<2^60/\∀(H':Hp) (d:Int),SameB L H H'->Sta H' L->0<=d->d<n->Q (.int d) H'
theorem ok_nx (T:Tx K mg t1 t2) (F:At K mg "_law_next" jdq ["state","many"] []):jal P w K mg base CX0 1 "_law_next" ["state","many"] [] jox:=by
 refine F.ok jd4 (fun vs H Q E h=>?_) (fun f cdv A outer s H vs Q E hr h=>?_)
 ·obtain⟨L,n,rfl,_⟩:=h;rfl
 obtain⟨L,n,rfl,⟨a,b,hL,b0,b1⟩,n0,n60,q⟩:=h;have S:=jd4;refine⟨_,(jae (jaO (jar jgF (jaj ix_list (pv 0) jab) jab (jaz _))
  (jae (jas (i:=2) S.nd rfl (Or.inl rfl) (jaq jb1 (jaj ix_list (pv 0) jab) (pv 1)))
  (jae (jcC (jaq jfp (jaj ix_list (pv 0) jab) (pv 1)) (jfY (pv 0) jab jfi))
  (jai (jap (pv 2)))))
  jaA)
  (jae (jcC (jaq jb1 (jaq jbq (jaq jaw (jaj ix_list (pv 0) jab) jab) jab) jab) (jfY (pv 0) jab jfi))
  (jai (jap (jaq jb1 (jaq jfp (jaq jb1 (jaq jaw (jaj ix_list (pv 0) jab) (jaj ix_list (pv 0) jab)) jab) jab) (pv 1)))))),?_⟩
 have k1:SqL K H L [.int a,.int b]:=SqL.of hL;have fn:Fit n:=Bd.fit (n:=61) (by unfold Bd;omega);have fb:Fit b:=Bd.fit (n:=61) (by unfold Bd;omega);have fm:Fit (69621:Int):=Bd.fit (n:=61) (by unfold Bd;omega);have fp:Fit (2147483629:Int):=Bd.fit (n:=61) (by unfold Bd;omega);walk_at "rf";walk_at "gf";refine jcA (fun c=>?_) fun c=>?_
 ·refine ixL k1 rfl ⟨a,rfl,n0,ixL k1 rfl ⟨a,rfl,n0,fn,?_⟩⟩;unfold gSub;walk_at "rf";exact⟨L,_,0,0,rfl,rfl,hL,rfl,q _ _ SameB.set ⟨a / n,b,jaf,b0,b1⟩ (xbo _ (by omega)) (xbc _ n0)⟩
 ·refine ixL k1 rfl ⟨b,rfl,fb,fm,by decide,?_⟩;have g0:=xbo (b*69621+40692) (show (2147483647:Int)≠0 by decide);have g1:=xbc (b*69621+40692) (show (0:Int)<2147483647 by decide);unfold gSub;walk_at "rf";refine⟨L,_,1,1,rfl,rfl,hL,rfl,?_⟩;generalize (b*69621+40692) % 2147483647=b' at g0 g1;have e1:upd H L (.lst ([V.int a,V.int b].set 1 (V.int b'))) L=some (.lst [.int a,.int b']):=jaf;have sB:SameB L H (upd H L (.lst ([V.int a,V.int b].set 1 (V.int b')))):=SameB.set;generalize upd H L (.lst ([V.int a,V.int b].set 1 (V.int b')))=H1 at e1 sB;have k2:SqL K H1 L [.int a,.int b']:=SqL.of e1;have fb':Fit b':=Bd.fit (n:=61) (by unfold Bd;omega);have f8:Fit (8:Int):=Bd.fit (n:=61) (by unfold Bd;omega);exact ixL k2 rfl (ixL k2 rfl ⟨b',rfl,b',rfl,fb',fb',by decide,by decide,f8,n0,q _ _ sB ⟨a,b',e1,g0,g1⟩ (xbo _ (by omega)) (xbc _ n0)⟩)
def jnU:Sp:=fun vs H Q _=>∃c:Int,vs=[.int c]/\∀(L:Addr) (H':Hp),H L=none->Same H H'->Sta H' L->Q (.ref L) H'
theorem jpI (T:Tx K mg t1 t2) (F:At K mg "_law_state" jcJ ["cell"] []):jal P w K mg base CX0 1 "_law_state" ["cell"] [] jnU:=by
 refine F.ok jdz (fun vs H Q E h=>?_) (fun f cdv A outer s H vs Q E hr h=>?_)
 ·obtain⟨c,rfl,_⟩:=h;rfl
 obtain⟨c,rfl,q⟩:=h;have S:=jdz;refine⟨_,(jae (jas (i:=1) S.nd rfl (Or.inl rfl) jab)
  (jae (jaO (jar jm1 (pv 0) (jaq jg3 jab jab) (jaz _))
  (jai (jas (i:=1) S.nd rfl (Or.inl rfl) (pv 0)))
  jaA)
  (jai (jap (jbs (jaa (pv 1) (jaa (jaq jb1 (jaq jaw (jaq jbq (jaq jb1 (pv 0) jab) jab) jab) jab) jac jbf) jag)))))),?_⟩
 have e18:(10:Int)^Int.toNat 18=1000000000000000000:=by decide
 walk_at "rf";have m0:=xbo c (show (2147483629:Int)≠0 by decide);have m1:=xbc c (show (0:Int)<2147483629 by decide);have f1:Fit (c % 2147483629+11):=Bd.fit (n:=61) (by unfold Bd;omega);have f2:Fit (48271:Int):=Bd.fit (n:=61) (by unfold Bd;omega);have g0:=xbo ((c % 2147483629+11)*48271) (show (2147483647:Int)≠0 by decide);have g1:=xbc ((c % 2147483629+11)*48271) (show (0:Int)<2147483647 by decide);refine⟨⟨by decide,by decide,by decide⟩,jcA (fun _=>?_) fun _=>?_⟩<;>exact⟨by decide,f1,f2,by decide,by decide,fun p hp=>q p _ hp (Same.new hp _) ⟨_,_,jaf,g0,g1⟩⟩
def jmD (K:PySem.W.Frag):Sp:=fun vs H Q _=>∃(a:Addr) (ns:List Int) (k:Nat),vs=[.ref a,.int (k:Nat)]/\SqL K H a (ns.map V.int)/\ns.length<=63/\k<64/\∀(i:Int) (H':Hp),Same H H'->Q (.int i) H'
theorem jnV (T:Tx K mg t1 t2) (F:At K mg "_law_cell_at" jca ["script","k"] []):jal P w K mg base CX0 1 "_law_cell_at" ["script","k"] [] (jmD K):=by
 refine F.ok jcQ (fun vs H Q E h=>?_) (fun f cdv A outer s H vs Q E hr h=>?_)
 ·obtain⟨a,ns,k,rfl,_⟩:=h;rfl
 obtain⟨a,ns,k,rfl,k1,n63,k64,q⟩:=h;have S:=jcQ;refine⟨_,(jae (jaO (jar jfZ (pv 1) (jav jaJ rfl T.m_len PySem.boot_len (jaa (pv 0) jac jag)) (jaz _))
  (jai (jap (jaj ix_list (pv 0) (pv 1))))
  jaA)
  (jae (jas (i:=2) S.nd rfl (Or.inl rfl) jab)
  (jae (jaO (jar (jcD (jgA hr)) (pv 0) (jbs jac) (jaz _))
  (jai (jas (i:=2) S.nd rfl (Or.inl rfl) (jaq jb1 (jaj ix_list (pv 0) (jaq jb1 (pv 1) (jav jaJ rfl T.m_len PySem.boot_len (jaa (pv 0) jac jag)))) jab)))
  jaA)
  (jai (jap (jaq jbq (jaq jbq (pv 2) (jaq jaw jab (pv 1))) jab)))))),?_⟩
 have ln:(ns.map V.int).length=ns.length:=xaa _;walk_at "rf";walk_at "gf";have fk:Fit (k:Int):=Bd.fit (n:=61) (by unfold Bd;omega);have fc:Fit (104729:Int):=Bd.fit (n:=61) (by unfold Bd;omega);refine jcA (fun c=>?_) fun c=>?_
 ·rw[ln] at c;have hk:k<ns.length:=by omega
  exact ixL k1 (v:=.int ns[k]) (jaI (by rw[xaf,xab hk];rfl)) (q _ _ (Same.refl _))
 ·refine⟨by decide,fun p hp=>?_⟩;refine jeP hp fun H1 s1 e1=>?_;have k2:=s1.seq k1;refine jfr (x:=ns) (y:=[]) k2 (SqL.of e1) ⟨_,rfl,?_⟩;refine jcA (fun c1=>?_) fun c1=>⟨fc,fk,q _ _ s1⟩;have n0:0<ns.length:=by
   cases ns with
   | nil=>exact absurd c1 (by decide)
   | cons _ _=>exact Nat.succ_pos _
  refine⟨_,.inl k2,by rw[ln];omega,?_⟩;rw[ln];have hm:k % ns.length<ns.length:=xaL _ n0;have em:(k:Int) % (ns.length:Int)=((k % ns.length:Nat):Int):=(Int.natCast_emod ..).symm;rw[em];exact ixL k2 (v:=.int ns[k % ns.length]) (jaI (by rw[xaf,xab hm];rfl)) ⟨_,rfl,by decide,fc,fk,q _ _ s1⟩
def jmE (K:PySem.W.Frag):Sp:=fun vs H Q _=>∃(a:Addr) (ns:List Int) (m:Nat),vs=[.ref a,.int (m:Nat)]/\SqL K H a (ns.map V.int)/\ns.length<=63/\1<=m/\m<64/\∀(l:Addr) (H':Hp) (cs:List Int),H l=none->Same H H'->H' l=some (.lst (cs.map V.int))->cs.length=m->Q (.ref l) H'
theorem jnW (T:Tx K mg t1 t2) (F:At K mg "_law_folded" jby ["script","many"] []) (Db:jal P w K mg base CX0 1 "_law_cell_at" ["script","k"] [] (jmD K)):jal P w K mg base CX0 2 "_law_folded" ["script","many"] [] (jmE K):=by
 refine F.ok jdd (fun vs H Q E h=>?_) (fun f cdv A outer s H vs Q E hr h=>?_)
 ·obtain⟨a,ns,m,rfl,_⟩:=h;rfl
 obtain⟨a,ns,m,rfl,k1,n63,m1,m64,q⟩:=h;have S:=jdd;refine⟨_,(jae (jbD (i:=2) rfl S.nd rfl rfl (N':=["k","script"]) (ix:=[0]) ⟨rfl,rfl,by decide +kernel,by decide +kernel,by decide +kernel,(show ∀y:Str × NameKind,y∈_->y.2=NameKind.free->(jad jby).names.lookup y.1=some .cell\/(jad jby).names.lookup y.1=some .free from by decide +kernel),(.cons rfl (.inl rfl) rfl .nil)⟩ (jaU rfl T.m_range (jaa (pv 1) jac jag)) (fun _ _ _ _=>jan (i:=0) (show (["k","script"]:List Str).Nodup from by decide +kernel) rfl (Or.inl rfl)) (fun _ _ _ _=>jaR) (fun _ _ _ _=>(jah Db hr.m rfl jat (jaa (pv 1) (jaa (pv 0) jac jag) jag))))
  (jae (jbE PassesOwn.never rfl (jel rfl T.m_range (jaa (pv 1) (jaa (jav jaJ rfl T.m_len PySem.boot_len (jaa (pv 0) jac jag)) jac jaN) jag)) (jan (i:=3) S.nd rfl (Or.inl rfl))
  (jae (jas (i:=4) S.nd rfl (Or.inl rfl) (jaq jb1 (pv 3) (pv 1)))
  (jai (jcC (jaq jb1 (jaq jbq (jaq jaw (jaq jb1 (jaj ix_list (pv 2) (pv 4)) (jaq jg3 jab jab)) jab) (jaj ix_list (pv 0) (pv 3))) (jaq jbq (jaq jg3 jab jab) jab)) (jfY (pv 2) (pv 4) jfi)))))
  (jai (jap (pv 2))))),?_⟩
 have ln:(ns.map V.int).length=ns.length:=xaa _;walk_at "rf";refine⟨by omega,by omega,fun acc hacc=>?_⟩;rw[xaU];refine joS (fun _ y=>∃d:Int,y=.int d) (by omega) hacc (fun i H3 R hi s3 hR=>?_) fun ys H1 s1 e1 l1 p1=>?_
 ·walk_at "rf";exact⟨a,ns,i,by rw[xcu],s3.seq k1,n63,by omega,fun d H4 s4=>hR _ _ s4 ⟨d,rfl⟩⟩
 obtain⟨cs,rfl⟩:=jju p1;rw[xaa] at l1;have k2:=s1.seq k1;refine⟨_,.inl k2,by omega,by omega,by rw[ln];omega,by rw[ln];omega,?_⟩;rw[ln];refine jbR (lo:=(m:Int)) (fun i σ Hh=>∃(ds:List Int) (o3 o4:Option V),σ=[some (.ref a),some (.int (m:Nat)),some (.ref acc),o3,o4]/\Same H Hh/\Hh acc=some (.lst (ds.map V.int))/\ds.length=m) ⟨cs,_,_,rfl,s1,e1,l1⟩ ?_ ?_
 ·rintro i σ Hh hi ⟨ds,o3,o4,rfl,sB,e2,l2⟩;have k3:SqL K Hh a (ns.map V.int):=sB.seq k1;have g0:=xbo ((m:Int)+i) (show (m:Int)≠0 by omega);have g1:=xbc ((m:Int)+i) (show (0:Int)<m by omega);obtain⟨j,ej⟩:=xbL g0;have hj:j<ds.length:=by omega
  have hk:m+i<ns.length:=by omega
  walk_at "rf";rw[ej];have p0:(0:Int)<10^Int.toNat 60:=by decide +kernel
  have p1:(10:Int)^Int.toNat 60<2^200:=by decide +kernel
  refine⟨by omega,ixL (SqL.of e2) (v:=.int ds[j]) (jaI (by rw[xaf,xab hj];rfl)) ?_⟩;have d0:=xbo ds[j] (show (10:Int)^Int.toNat 60≠0 by omega);have d1:=xbc ds[j] p0;refine⟨⟨by decide,by decide,by decide⟩,_,rfl,p0,Bd.fit (n:=200) (by unfold Bd;omega),Bd.fit (n:=61) (by unfold Bd;omega),ixL k3 (v:=.int ns[m+i]) (by rw[show (m:Int)+i=((m+i:Nat):Int) by omega];exact jaI (by rw[xaf,xab hk];rfl)) ⟨_,rfl,⟨by decide,by decide,by decide⟩,by omega,?_⟩⟩;unfold gSub;walk_at "rf";refine⟨acc,_,(j:Int),j,rfl,rfl,e2,jkc (by rw[xaa];exact hj),Same.keepN sB hacc _,ds.set j ((ds[j] % 10^Int.toNat 60*48271+ns[m+i]) % (10^Int.toNat 60+7)),?_,by rw[List.length_set];exact l2⟩;rw[jaf,List.map_set]
 ·rintro σ Hh ⟨ds,o3,o4,rfl,sB,e2,l2⟩;exact⟨_,rfl,q acc _ ds hacc sB e2 l2⟩
def Lt3 (K:PySem.W.Frag) (H:Hp) (a:Addr) (u:Tri):Prop:=SqL K H a [.int u.x,.int u.y,.int u.z]\/SqT K H a [.int u.x,.int u.y,.int u.z]
def upr (u v:Tri):Tri:=⟨u.y*v.z-u.z*v.y,u.z*v.x-u.x*v.z,u.x*v.y-u.y*v.x⟩
def jnX (K:PySem.W.Frag):Sp:=fun vs H Q _=>∃(a b:Addr) (u v:Tri),vs=[.ref a,.ref b]/\Lt3 K H a u/\Lt3 K H b v/\u.bd 900/\v.bd 900/\∀(g:Addr) (H':Hp),H g=none->Same H H'->H' g=some (.tup [.int (upr u v).x,.int (upr u v).y,.int (upr u v).z])->Q (.ref g) H'
theorem jpJ (T:Tx K mg t1 t2) (F:At K mg "_law_upright" jcb ["one","other"] []):jal P w K mg base CX0 1 "_law_upright" ["one","other"] [] (jnX K):=by
 refine F.ok jcR (fun vs H Q E h=>?_) (fun f cdv A outer s H vs Q E hr h=>?_)
 ·obtain⟨a,b,u,v,rfl,_⟩:=h;rfl
 obtain⟨a,b,u,v,rfl,k1,k2,⟨u1,u2,u3⟩,⟨v1,v2,v3⟩,q⟩:=h;have S:=jcR;refine⟨_,(jai (jap (jaQ (jaa (jaq ja5 (jaq jaw (jaj (jcz (K:=K) rfl) (pv 0) jab) (jaj (jcz (K:=K) rfl) (pv 1) jab)) (jaq jaw (jaj (jcz (K:=K) rfl) (pv 0) jab) (jaj (jcz (K:=K) rfl) (pv 1) jab))) (jaa (jaq ja5 (jaq jaw (jaj (jcz (K:=K) rfl) (pv 0) jab) (jaj (jcz (K:=K) rfl) (pv 1) jab)) (jaq jaw (jaj (jcz (K:=K) rfl) (pv 0) jab) (jaj (jcz (K:=K) rfl) (pv 1) jab))) (jaa (jaq ja5 (jaq jaw (jaj (jcz (K:=K) rfl) (pv 0) jab) (jaj (jcz (K:=K) rfl) (pv 1) jab)) (jaq jaw (jaj (jcz (K:=K) rfl) (pv 0) jab) (jaj (jcz (K:=K) rfl) (pv 1) jab))) jac jbf) jbf) jbf)))),?_⟩;have f1:Fit u.x:=u1.fit;have f2:Fit u.y:=u2.fit;have f3:Fit u.z:=u3.fit;have g1:Fit v.x:=v1.fit;have g2:Fit v.y:=v2.fit;have g3:Fit v.z:=v3.fit;have i0:∀w:Tri,atI [V.int w.x,V.int w.y,V.int w.z] 0=some (V.int w.x):=fun _=>rfl;have i1:∀w:Tri,atI [V.int w.x,V.int w.y,V.int w.z] 1=some (V.int w.y):=fun _=>rfl;have i2:∀w:Tri,atI [V.int w.x,V.int w.y,V.int w.z] 2=some (V.int w.z):=fun _=>rfl;unfold Lt3 at k1 k2;walk_at "rf";exact jhz k1 (i1 u) (jhz k2 (i2 v) ⟨_,rfl,_,rfl,f2,g3,jhz k1 (i2 u) (jhz k2 (i1 v) ⟨_,rfl,_,rfl,f3,g2,jhz k1 (i2 u) (jhz k2 (i0 v) ⟨_,rfl,_,rfl,f3,g1,jhz k1 (i0 u) (jhz k2 (i2 v) ⟨_,rfl,_,rfl,f1,g3,jhz k1 (i0 u) (jhz k2 (i1 v) ⟨_,rfl,_,rfl,f1,g2,jhz k1 (i1 u) (jhz k2 (i0 v) ⟨_,rfl,_,rfl,f2,g1,by decide,fun p hp=>q p _ hp (Same.new hp _) jaf⟩)⟩)⟩)⟩)⟩)⟩)
theorem jpK {P:Int->Prop} (l:ys.length=3) (h:∀y∈ys,∃d:Int,y=.int d/\P d):∃a b c:Int,ys=[.int a,.int b,.int c]/\P a/\P b/\P c:=by
  match ys,l with
  | [x, y, z], _ =>
    obtain⟨a,rfl,ha⟩:=h x (by simp);obtain⟨b,rfl,hb⟩:=h y (by simp);obtain⟨c,rfl,hc⟩:=h z (by simp);exact⟨a,b,c,rfl,ha,hb,hc⟩
theorem jpL {acc:Addr} {Z:Hp->Prop} {lo:Int} (p:V->Prop) (hn:n<1000) (hacc:H1 acc=none) (b0:Sta H1 L)
  (hs:∀(i:Nat) (H3:Hp) (R:V->Hp->Prop),i<n->SameB L H1 H3->Sta H3 L->(∀y H4,SameB L H3 H4->Sta H4 L->p y->R y H4)->te (some (.int (lo+i))::ρ) H3 R)
  (hd:∀ys H',SameB L H1 H'->Sta H' L->H' acc=some (.lst ys)->ys.length=n->(∀y∈ys,p y)->Z H'):CompGo (Itr lo n) ρ (jbA 0) jcl te acc Z H1:=by
 have ne:=b0.ne hacc;have up:∀{H:Hp} {xs:List V},Sta H L->Sta (upd H acc (.lst xs)) L:=fun {H xs} ⟨a,b,h1,h2⟩=>⟨a,b,by rw[jaC (Ne.symm ne)];exact h1,h2⟩;refine jc3 (fun i xs H=>SameB L H1 H/\Sta H L/\H acc=some (.lst xs)/\xs.length=i/\∀y∈xs,p y) ⟨(Same.new hacc _).b,up b0,jaf,rfl,fun y h=>nomatch h⟩ ?_ ?_
 ·rintro i xs H hi ⟨g1,gb,g2,hl,hp⟩;refine hs i H _ hi g1 gb fun y H4 s4 b4 py=>⟨s4 _ _ ne g2,jaF (by omega),SameB.acc (g1.trans s4) hacc,up b4,jaf,?_,fun z hz=>?_⟩
  ·rw[xad,hl];rfl
  ·rcases xaz.mp hz with hz | hz
   ·exact hp z hz
   ·rw[xam.mp hz];exact py
 ·rintro xs H ⟨g1,gb,g2,hl,hp⟩;exact hd xs H g1 gb g2 hl hp
def jpM:Sp:=fun vs H Q _=>∃(L:Addr) (n:Int),vs=[.ref L,.int n]/\Sta H L/\0<=n/\n<=1000001/\∀(t:Addr) (H':Hp) (v:Tri),H t=none->SameB L H H'->Sta H' L->H' t=some (.tup [.int v.x,.int v.y,.int v.z])->(v.x.natAbs<=n.natAbs/\v.y.natAbs<=n.natAbs/\v.z.natAbs<=n.natAbs)->Q (.ref t) H'
theorem jpN (T:Tx K mg t1 t2) (F:At K mg "_law_arrow" jbG ["state","span"] []) (de:jal P w K mg base CX0 1 "_law_next" ["state","many"] [] jox):jal P w K mg base CX0 2 "_law_arrow" ["state","span"] [] jpM:=by
 refine F.ok jdA (fun vs H Q E h=>?_) (fun f cdv A outer s H vs Q E hr h=>?_)
 ·obtain⟨L,n,rfl,_⟩:=h;rfl
 obtain⟨L,n,rfl,hL,n0,n1,q⟩:=h;have S:=jdA;refine⟨_,(jai (jap (jaK jcm rfl T.m_tuple boot_tuple (jaa (ja4 rfl (N':=["k","state","span"]) (ix:=[0,1]) ⟨rfl,rfl,by decide +kernel,by decide +kernel,by decide +kernel,(show ∀y:Str × NameKind,y∈_->y.2=NameKind.free->(jad jbG).names.lookup y.1=some .cell\/(jad jbG).names.lookup y.1=some .free from by decide +kernel),(.cons rfl (.inl rfl) rfl (.cons rfl (.inl rfl) rfl .nil))⟩ (jaU rfl T.m_range (jaa jab jac jam)) (fun _ _ _ _=>jan (i:=0) (show (["k","state","span"]:List Str).Nodup from by decide +kernel) rfl (Or.inl rfl)) (fun _ _ _ _=>jaR) (fun _ _ _ _=>(jaq ja5 (jah de hr.m rfl jat (jaa (pv 1) (jaa (jaq jbq (jaq jaw jab (pv 2)) jab) jac jbf) jag)) (pv 2)))) jac jb4)))),?_⟩;walk_at "rf";refine⟨by decide,by decide,fun acc hacc=>jpL (L:=L) (n:=3) (fun y=>∃d:Int,y=.int d/\d.natAbs<=n.natAbs) (by decide) hacc hL (fun i H3 R hi s3 b3 hR=>?_) fun ys H1 s1 b1 e1 l1 p1=>?_⟩
 ·walk_at "rf";refine⟨.o (by decide) (by decide),.o (by omega) (by omega),L,_,rfl,b3,by omega,by omega,fun H4 d s4 b4 d0 d1=>⟨_,rfl,hR _ _ s4 b4 ⟨_,rfl,by omega⟩⟩⟩
 obtain⟨x,y,z,rfl,hx,hy,hz⟩:=jpK l1 p1;exact⟨_,SqL.of e1,fun l hl=>q l _ ⟨x,y,z⟩ (s1.none (b1.ne hl) hl) (s1.trans (Same.new hl _).b) (b1.keep (Same.new hl _)) jaf ⟨hx,hy,hz⟩⟩
structure RawB (n:Nat) (Z:Sht):Prop where
 w1:1<=Z.w
 w3:Z.w<=3
 sx:Z.s.x.natAbs<=2097152+n*8388608
 sy:Z.s.y.natAbs<=2097152+n*8388608
 sz:Z.s.z.natAbs<=2097152+n*8388608
 c:Z.c.x.natAbs<=1000000/\Z.c.y.natAbs<=1000000/\Z.c.z.natAbs<=1000000
 d:Z.d.x.natAbs<=1000000/\Z.d.y.natAbs<=1000000/\Z.d.z.natAbs<=1000000
theorem jmF (h:v.x.natAbs<=1000000/\v.y.natAbs<=1000000/\v.z.natAbs<=1000000) (l:20<=n):v.bd n :=
 ⟨Bd.mono (n:=20) (by unfold Bd;omega) l,Bd.mono (n:=20) (by unfold Bd;omega) l,Bd.mono (n:=20) (by unfold Bd;omega) l⟩
structure RawOk (n:Nat) (Z:Sht):Prop where
 b:RawB n Z
 nz:Z.u.nz
theorem RawB.mono {m:Nat} (h:RawB n Z) (l:n<=m):RawB m Z :=
 ⟨h.w1,h.w3,xaE h.sx (by omega),xaE h.sy (by omega),xaE h.sz (by omega),h.c,h.d⟩
theorem RawOk.mono {m:Nat} (h:RawOk n Z) (l:n<=m):RawOk m Z:=⟨h.b.mono l,h.nz⟩
def Bas (H:Hp) (b c d:Addr) (Z:Sht):Prop:=H b=some (.tup [.int Z.s.x,.int Z.s.y,.int Z.s.z,.int Z.w])/\H c=some (.tup [.int Z.c.x,.int Z.c.y,.int Z.c.z])/\H d=some (.tup [.int Z.d.x,.int Z.d.y,.int Z.d.z])
theorem Bas.keep {b c d:Addr} (h:Bas H b c d Z) (s:SameT H H'):Bas H' b c d Z:=⟨s _ _ h.1,s _ _ h.2.1,s _ _ h.2.2⟩
def rM1 (H:Hp) (L M:Addr):L2.St->Hp->Prop:=fun σ H'=>∃way:Int,σ=[some (.ref L),some (.ref M),some (.int way),none,none,none,none,none,none,none]/\0<=way/\way<8/\SameB L H H'/\Sta H' L
def rM2 (H:Hp) (L M:Addr):L2.St->Hp->Prop:=fun σ H'=>∃way sp:Int,σ=[some (.ref L),some (.ref M),some (.int way),some (.int sp),none,none,none,none,none,none]/\0<=way/\way<8/\3<=sp/\sp<=1000000/\SameB L H H'/\Sta H' L
def rM3 (H:Hp) (L M:Addr):L2.St->Hp->Prop:=fun σ H'=>∃(way sp w:Int) (b:Addr) (v:Tri),σ=[some (.ref L),some (.ref M),some (.int way),some (.int sp),some (.ref b),none,none,none,none,none]/\0<=way/\way<8/\3<=sp/\sp<=1000000/\H' b=some (.tup [.int v.x,.int v.y,.int v.z,.int w])/\1<=w/\w<=3/\v.x.natAbs<=1000001/\v.y.natAbs<=1000001/\v.z.natAbs<=1000001/\SameB L H H'/\Sta H' L
def rM5 (H:Hp) (L M:Addr):L2.St->Hp->Prop:=fun σ H'=>∃(way:Int) (b c d:Addr) (Z:Sht) (o3:Option V),σ=[some (.ref L),some (.ref M),some (.int way),o3,some (.ref b),some (.ref c),some (.ref d),none,none,none]/\0<=way/\way<8/\Bas H' b c d Z/\RawB 0 Z/\SameB L H H'/\Sta H' L
def rM6 (H:Hp) (L M:Addr):L2.St->Hp->Prop:=fun σ H'=>∃(way:Int) (b c d:Addr) (Z:Sht) (o3:Option V),σ=[some (.ref L),some (.ref M),some (.int way),o3,some (.ref b),some (.ref c),some (.ref d),none,none,none]/\0<=way/\way<8/\Bas H' b c d Z/\RawOk 0 Z/\SameB L H H'/\Sta H' L
def rM7 (H:Hp) (L M:Addr) (n:Nat):L2.St->Hp->Prop:=fun σ H'=>∃(b c d:Addr) (Z:Sht) (o2 o3 o7 o8 o9:Option V),σ=[some (.ref L),some (.ref M),o2,o3,some (.ref b),some (.ref c),some (.ref d),o7,o8,o9]/\Bas H' b c d Z/\RawOk (n+1) Z/\SameB L H H'/\Sta H' L
def RawAt (H:Hp) (t:Addr) (Z:Sht) (sh:Nat):Prop:=∃b c d:Addr,H t=some (.tup [.ref b,.ref c,.ref d,.int (sh:Nat)])/\H b=some (.tup [.int Z.s.x,.int Z.s.y,.int Z.s.z,.int Z.w])/\H c=some (.tup [.int Z.c.x,.int Z.c.y,.int Z.c.z])/\H d=some (.tup [.int Z.d.x,.int Z.d.y,.int Z.d.z])/\sh<6
theorem RawAt.keep {t:Addr} {sh:Nat} (h:RawAt H t Z sh) (s:SameT H H'):RawAt H' t Z sh:=by
 obtain⟨b,c,d,h1,h2,h3,h4,h5⟩:=h;exact⟨b,c,d,s _ _ h1,s _ _ h2,s _ _ h3,s _ _ h4,h5⟩
def RwAt (n:Nat) (H:Hp) (t:Addr) (z:Sht × Nat):Prop:=RawAt H t z.1 z.2/\RawOk n z.1
theorem RwAt.keep {t:Addr} {z:Sht × Nat} (h:RwAt n H t z) (s:SameT H H'):RwAt n H' t z:=⟨h.1.keep s,h.2⟩
theorem RwAt.rds {t:Addr} {z:Sht × Nat} (h:RwAt n H t z):Rds K H (.ref t) (.tuple [.tuple [.int z.1.s.x,.int z.1.s.y,.int z.1.s.z,.int z.1.w],.tuple [.int z.1.c.x,.int z.1.c.y,.int z.1.c.z],.tuple [.int z.1.d.x,.int z.1.d.y,.int z.1.d.z],.int (z.2:Nat)]):=by
 obtain⟨⟨b,c,d,h1,h2,h3,h4,_⟩,_⟩:=h;exact .tup (SqT.of h1) (.cons (.tup (SqT.of h2) (RdsAll.ints [_,_,_,_])) (.cons (.tup (SqT.of h3) (RdsAll.ints [_,_,_])) (.cons (.tup (SqT.of h4) (RdsAll.ints [_,_,_])) (.cons (.int _) .nil))))
def rwD (z:Sht × Nat):PyData:=.tuple [.tuple [.int z.1.s.x,.int z.1.s.y,.int z.1.s.z,.int z.1.w],.tuple [.int z.1.c.x,.int z.1.c.y,.int z.1.c.z],.tuple [.int z.1.d.x,.int z.1.d.y,.int z.1.d.z],.int (z.2:Nat)]
theorem jlO {rs:List Addr} {zs:List (Sht × Nat)} (h:All2 (RwAt n H) rs zs):RdsAll K H (rs.map V.ref) (zs.map rwD):=by
 induction h with
 | nil=>exact .nil
 | cons h _ ih=>exact .cons h.rds ih
theorem jnY (zs:List (Sht × Nat)):PyData.canLayAll0 (zs.map rwD)=true/\PyData.depthAll (zs.map rwD)<=2:=by
  induction zs with
  | nil=>exact⟨rfl,by decide⟩
  | cons z zs ih =>
    obtain⟨a,b⟩:=ih;refine⟨?_,?_⟩
    . rw[xay]
      simp [PyData.canLayAll0,a,rwD,PyData.canLay0]
    . rw[xay]
      simp [PyData.depthAll,rwD,PyData.depth];omega
theorem jpO (zs:List (Sht × Nat)):SeqAt.shaped (.list (zs.map rwD))=true:=by
 obtain⟨a,b⟩:=jnY zs;unfold SeqAt.shaped;simp [PyData.canLay0,a,PyData.depth];omega
theorem jhO {p:Addr} {rs:List Addr} {zs:List (Sht × Nat)} (hM:H M=some (.lst (rs.map V.ref))) (h:All2 (RwAt n H) rs zs) (hp:H p=some (.lst [])) (q:Q (.bl (!decide (rs=[]))) H):ji5 K true (.ref M) (.ref p) H Q:=by
 refine⟨_,.list [],.lst (SqL.of hM) (jlO h),.lst (SqL.of hp) .nil,jpO zs,by decide,?_⟩;have e:PyData.eqv (.list (zs.map rwD)) (.list [])=decide (rs=[]):=by
  cases h with
  | nil=>rfl
  | cons _ _=>rfl
 rw[e];exact q
def jpP:Sp:=fun vs H Q _=>∃(L M:Addr) (n:Nat) (rs:List Addr) (zs:List (Sht × Nat)),vs=[.ref L,.ref M]/\Sta H L/\M≠L/\H M=some (.lst (rs.map V.ref))/\All2 (RwAt n H) rs zs/\n<=8/\rs.length<900/\∀(t:Addr) (H':Hp) (z:Sht × Nat),SameB L H H'->Sta H' L->RwAt (n+1) H' t z->Q (.ref t) H'
theorem jnZ {X:Cx} {o:Operator} {r:R2} {a b:Expr} {ta tb:TE} {pos:Pos} (h:OpR X (binaryOp o) r) (ha:WE X a ta) (hb:WE X b tb):WE X (.BinOp a o b pos) (tOp r ta tb):=⟨jaq h ha.h hb.h⟩
def cmp (v:Tri) (k:Nat):Int:=if k=0 then v.x else if k=1 then v.y else v.z
theorem cmp3 (v:Tri) (h:k<3):atI [V.int v.x,V.int v.y,V.int v.z] (0+(k:Int))=some (.int (cmp v k)):=by
 match k,h with
 | 0,_=>rfl
 | 1,_=>rfl
 | 2,_=>rfl
theorem jpQ (v:Tri) (u:Int) (h:k<3):atI [V.int v.x,V.int v.y,V.int v.z,V.int u] (0+(k:Int))=some (.int (cmp v k)):=by
 match k,h with
 | 0,_=>rfl
 | 1,_=>rfl
 | 2,_=>rfl
theorem jeL (h:v.x.natAbs<=n/\v.y.natAbs<=n/\v.z.natAbs<=n) (k:Nat):(cmp v k).natAbs<=n:=by
 unfold cmp;split
 ·exact h.1
 ·split
  ·exact h.2.1
  ·exact h.2.2
theorem jn0 {w:Int} (hx:x.natAbs<=2) (hc:c.natAbs<=1000000) (hw:w.natAbs<=3):(a+x*c*w).natAbs<=a.natAbs+6000000:=by
 have h1:=xcA hx hc;rw[<- xcy] at h1;have h2:=xcA h1 hw;rw[<- xcy] at h2;omega
theorem jgv {α β:Type} {R:α->β->Prop} {as:List α} {bs:List β} (h:All2 R as bs) (n:as≠[]):∃a b k,as.length=k+1/\as[k]?=some a/\R a b:=by
  cases e:as.length with
  | zero=>exact absurd (xa5.mp e) n
  | succ k =>
    have ha:as[k]?=some as[k]:=xab (by omega);obtain⟨b,_,r⟩:=h.getA ha;exact⟨_,b,k,rfl,ha,r⟩
theorem upr_u (Z:Sht):upr Z.c Z.d=Z.u:=rfl
theorem jpR (T:Tx K mg t1 t2) (F:At K mg "_law_raw" jci ["state","made"] []) (de:jal P w K mg base CX0 1 "_law_next" ["state","many"] [] jox) (dN:jal P w K mg base CX0 2 "_law_arrow" ["state","span"] [] jpM) (dJ:jal P w K mg base CX0 1 "_law_upright" ["one","other"] [] (jnX K)):jal P w K mg base CX0 3 "_law_raw" ["state","made"] [] jpP:=by
 refine F.okW jeG (fun vs H Q E h=>?_) (fun f cdv A outer s H vs Q E hr h=>?_)
 ·obtain⟨L,M,n,rs,zs,rfl,_⟩:=h;rfl
 obtain⟨L,M,n,rs,zs,rfl,hL,nM,hM,hz,n8,l9,q⟩:=h;have S:=jeG;refine⟨_,(jk2 ⟨(jas (i:=2) S.nd rfl (Or.inl rfl) (jah de hr.m rfl jat (jaa (pv 0) (jaa jab jac jam) jag)))⟩
  (jdk (rM1 H L M) ⟨(jaO (PW.pt (jfX (jar jea (pv 2) jab (jaz _)) (jfg (jar (jcD (jgA hr)) (pv 1) (jbs jac) (jaz _)))))
  (jai (jap (jaj ix_list (pv 1) (jd9 jcv jab))))
  jaA)⟩
  (jdk (rM2 H L M) (jf9 (joT ix_list (jcE (jak ⟨jab⟩ (jak ⟨jab⟩ (jak ⟨jab⟩ (jak ⟨(jaq jg3 jab jab)⟩ jaL jbf) jam) jam) jam)) (jah de hr.m rfl jat (jaa (pv 0) (jaa jab jac jam) jag)) (fun _ _=>rfl)) (jan (i:=3) S.nd rfl (Or.inl rfl)))
  (jdk (rM3 H L M) (jf9 (jnZ jiV ⟨(jah dN hr.m rfl jat (jaa (pv 0) (jaa (jaq jbq (pv 3) jab) jac jbf) jag))⟩ (ja0 (jak (joT ix_list (jcE (jak ⟨jab⟩ (jak ⟨jab⟩ (jak ⟨jab⟩ (jak ⟨jab⟩ jaL jam) jam) jam) jam)) (jah de hr.m rfl jat (jaa (pv 0) (jaa jab jac jam) jag)) (fun _ _=>rfl)) jaL jau))) (jan (i:=4) S.nd rfl (Or.inr rfl)))
  ⟨(jae (jas (i:=5) S.nd rfl (Or.inr rfl) (jah dN hr.m rfl jat (jaa (pv 0) (jaa (pv 3) jac jag) jag)))
  (ja3 (rM5 H L M) (jas (i:=6) S.nd rfl (Or.inl rfl) (jah dN hr.m rfl jat (jaa (pv 0) (jaa (pv 3) jac jag) jag)))
  (ja3 (rM6 H L M) (jaO (jar (jf8 (jgA hr)) (jah dJ hr.m rfl jat (jaa (pv 5) (jaa (pv 6) jac jag) jag)) (jaQ (jaa jab (jaa jab (jaa jab jac jam) jam) jam)) (jaz _))
  (jae (jas (i:=5) S.nd rfl (Or.inr rfl) (jaQ (jaa jab (jaa jab (jaa (pv 2) jac jag) jam) jam)))
  (jai (jas (i:=6) S.nd rfl (Or.inl rfl) (jaQ (jaa jab (jaa jab (jaa jab jac jam) jam) jam)))))
  jaA)
  (ja3 (rM7 H L M n) (jaO (PW.pt (jfX (jar jea (pv 2) jab (jaz _)) (jfg (jar (jcD (jgA hr)) (pv 1) (jbs jac) (jaz _)))))
  (jae (jcC (jaj ix_list (pv 1) (jd9 jcv jab)) (jdt rfl (jay (jan (i:=4) S.nd rfl (Or.inr rfl)) (jay (jan (i:=5) S.nd rfl (Or.inr rfl)) (jay (jan (i:=6) S.nd rfl (Or.inl rfl)) (jay (jan (i:=7) S.nd rfl (Or.inl rfl)) jbb))))))
  (jae (jas (i:=8) S.nd rfl (Or.inr rfl) (jaq ja5 (jah de hr.m rfl jat (jaa (pv 0) (jaa jab jac jam) jag)) jab))
  (jae (jbD (i:=9) rfl S.nd rfl rfl (N':=["k","base","across","one"]) (ix:=[4,8,5]) ⟨rfl,rfl,by decide +kernel,by decide +kernel,by decide +kernel,(show ∀y:Str × NameKind,y∈_->y.2=NameKind.free->(jad jci).names.lookup y.1=some .cell\/(jad jci).names.lookup y.1=some .free from by decide +kernel),(.cons rfl (.inl rfl) rfl (.cons rfl (.inl rfl) rfl (.cons rfl (.inl rfl) rfl .nil)))⟩ (jaU rfl T.m_range (jaa jab jac jam)) (fun _ _ _ _=>jan (i:=0) (show (["k","base","across","one"]:List Str).Nodup from by decide +kernel) rfl (Or.inl rfl)) (fun _ _ _ _=>jaR) (fun _ _ _ _=>(jaq jbq (jaj (jaY (K:=K) rfl) (pv 1) (pv 0)) (jaq jaw (jaq jaw (pv 2) (jaj (jaY (K:=K) rfl) (pv 3) (pv 0))) (jaj (jaY (K:=K) rfl) (pv 1) jab)))))
  (jai (jas (i:=4) S.nd rfl (Or.inr rfl) (jaK jcm rfl T.m_tuple boot_tuple (jaa (jaq jc7 (pv 9) (jbs (jaa (jaj jao (pv 4) jab) jac jau))) jac jbf)))))))
  jaA)
  (jai (jap (jaQ (jaa (pv 4) (jaa (pv 5) (jaa (pv 6) (jaa (jah de hr.m rfl jat (jaa (pv 0) (jaa jab jac jam) jag)) jac jaN) jag) jag) jag))))))))⟩)))),?_⟩
 walk_at "rf";refine⟨L,8,rfl,hL,by decide,by decide,fun H1 way s1 b1 w0 w8=>?_⟩;have zk:∀{H':Hp},SameB L H H'->All2 (RwAt n H') rs zs:=fun s=>hz.mono fun _ _ h=>h.keep (hL.t s);refine⟨rfl,jcA (fun _=>?_) fun _=>⟨way,rfl,w0,w8,s1,b1⟩,?_⟩
 ·refine⟨by decide,fun p hp=>?_⟩;have s2:=Same.new hp (.lst []);refine jhO (s2 _ _ (s1 _ _ nM hM)) (zk (s1.trans s2.b)) jaf ⟨_,rfl,jcA (fun c=>?_) fun _=>⟨way,rfl,w0,w8,s1.trans s2.b,b1.keep s2⟩⟩;obtain⟨r,z,k,lk,hr',hz'⟩:=jgv (zk (s1.trans s2.b)) (by
   rintro rfl;exact absurd c (by decide))
  exact ixL (SqL.of (s2 _ _ (s1 _ _ nM hM))) (jc4 (n:=k) (v:=.ref r) (by rw[xaa];exact lk) (by rw[xaf,hr'];rfl)) (q r _ z (s1.trans s2.b) (b1.keep s2) ⟨hz'.1,hz'.2.mono (by omega)⟩)
 rintro σ1 H1 ⟨way,rfl,w0,w8,s1,b1⟩;walk_at "rf";refine⟨⟨by decide,by decide,by decide⟩,by decide,fun p hp=>?_,?_⟩
 ·refine jeP hp fun H2 s2 e2=>?_;refine⟨L,4,rfl,b1.keep s2,by decide,by decide,fun H3 d s3 b3 d0 d4=>?_⟩;have e3:=s3 _ _ (b1.ne hp) e2;have s13:=s1.trans (s2.b.trans s3);have:d=0\/d=1\/d=2\/d=3:=by omega
  rcases this with rfl | rfl | rfl | rfl<;>exact ixL (SqL.of e3) rfl ⟨way,_,rfl,w0,w8,by decide,by decide,s13,b3⟩
 rintro σ2 H2 ⟨way,sp,rfl,w0,w8,sp0,sp1,s2,b2⟩;walk_at "rf";refine⟨⟨L,_,rfl,b2,by omega,by omega,fun t H3 v nt s3 b3 et hv=>⟨by decide,fun p hp=>?_⟩⟩,?_⟩
 ·refine jeP hp fun H4 j1 e1=>?_;have b4:=b3.keep j1;refine⟨L,4,rfl,b4,by decide,by decide,fun H5 d s5 b5 d0 d4=>?_⟩;have e5:=s5 _ _ (b3.ne hp) e1;have t5:=s5 _ _ (b4.tup (j1 _ _ et)) (j1 _ _ et);obtain⟨u,eu,u1,u3⟩:∃u:Int,atI [V.int 1,V.int 1,V.int 2,V.int 3] d=some (.int u)/\1<=u/\u<=3:=by
   have:d=0\/d=1\/d=2\/d=3:=by omega
   rcases this with rfl | rfl | rfl | rfl
   ·exact⟨1,rfl,by decide,by decide⟩
   ·exact⟨1,rfl,by decide,by decide⟩
   ·exact⟨2,rfl,by decide,by decide⟩
   ·exact⟨3,rfl,by decide,by decide⟩
  have s25:=s2.trans (s3.trans (j1.b.trans s5));refine ixL (SqL.of e5) eu ⟨by decide,fun p2 hp2=>?_⟩;have j2:=Same.new hp2 (.tup [.int u]);refine⟨t,p2,_,_,rfl,rfl,SqT.of (j2 _ _ t5),SqT.of jaf,(fun z=>nomatch z),xa1 (jaF (show 4<1000 by decide)),(fun z=>nomatch z),fun _ p3 hp3=>?_⟩;have j3:=j2.trans (Same.new hp3 (.tup ([.int v.x,.int v.y,.int v.z]++[.int u])));exact⟨way,sp,u,p3,v,rfl,w0,w8,sp0,sp1,jaf,u1,u3,by omega,by omega,by omega,s25.trans j3.b,b5.keep j3⟩
 rintro σ3 H3 ⟨way,sp,u,b,v,rfl,w0,w8,sp0,sp1,hb,u1,u3,v1,v2,v3,s3,b3⟩;walk_at "rf";refine⟨L,_,rfl,b3,by omega,by omega,fun c H4 x nc s4 b4 ec hx=>⟨⟨L,_,rfl,b4,by omega,by omega,fun d H5 y nd s5 b5 ed hy=>?_⟩,?_⟩⟩
 ·have c5:=s5 _ _ (b4.tup ec) ec;have b':=s5 _ _ (b4.tup (s4 _ _ (b3.tup hb) hb)) (s4 _ _ (b3.tup hb) hb);exact⟨way,b,c,d,⟨v,u,x,y⟩,_,rfl,w0,w8,⟨b',c5,ed⟩,⟨u1,u3,by show v.x.natAbs<=_;omega,by show v.y.natAbs<=_;omega,by show v.z.natAbs<=_;omega,by show x.x.natAbs<=_/\x.y.natAbs<=_/\x.z.natAbs<=_;omega,by show y.x.natAbs<=_/\y.y.natAbs<=_/\y.z.natAbs<=_;omega⟩,s3.trans (s4.trans s5),b5⟩
 rintro σ5 H5 ⟨way,b,c,d,Z,o3,rfl,w0,w8,hB,rB,s5,b5⟩;walk_at "rf";refine⟨⟨c,d,Z.c,Z.d,rfl,.inr (SqT.of hB.2.1),.inr (SqT.of hB.2.2),jmF rB.c (by decide),jmF rB.d (by decide),fun g H6 ng s6 eg=>⟨by decide,fun p hp=>?_⟩⟩,?_⟩
 ·refine jeP hp fun H7 j1 e1=>?_;have s7:=s5.trans (s6.b.trans j1.b);have b7:=(b5.keep s6).keep j1;have hB7:=hB.keep (s6.t.trans j1.t);refine jkX (x:=[(upr Z.c Z.d).x,(upr Z.c Z.d).y,(upr Z.c Z.d).z]) (y:=[0,0,0]) (SqT.of (j1 _ _ eg)) (SqT.of e1) ⟨_,rfl,jcA (fun _=>?_) fun c=>?_⟩
  ·refine⟨by decide,fun p1 hp1=>⟨by decide,fun p2 hp2=>?_⟩⟩;have j2:=Same.new hp1 (.tup [.int 1,.int 0,.int way]);have j3:=Same.new hp2 (.tup [.int 0,.int 1,.int 1]);refine⟨way,b,p1,p2,⟨Z.s,Z.w,⟨1,0,way⟩,⟨0,1,1⟩⟩,o3,rfl,w0,w8,⟨j3 _ _ (j2 _ _ hB7.1),j3 _ _ jaf,jaf⟩,⟨⟨rB.w1,rB.w3,rB.sx,rB.sy,rB.sz,⟨show (1:Int).natAbs<=_ by decide,show (0:Int).natAbs<=_ by decide,show way.natAbs<=_ by omega⟩,⟨show (0:Int).natAbs<=_ by decide,show (1:Int).natAbs<=_ by decide,show (1:Int).natAbs<=_ by decide⟩⟩,fun z=>absurd z.2.2 (by show ¬((1:Int)*1-0*0=0);decide)⟩,s7.trans (j2.b.trans j3.b),(b7.keep j2).keep j3⟩
  ·refine⟨way,b,_,_,Z,o3,rfl,w0,w8,hB7,⟨rB,fun z=>c ?_⟩,s7,b7⟩;rw[upr_u];obtain⟨z1,z2,z3⟩:=z;rw[z1,z2,z3];exact decide_eq_true rfl
 rintro σ6 H6 ⟨way,b,c,d,Z,o3,rfl,w0,w8,hB,rB,s6,b6⟩;walk_at "rf";refine⟨jcA (fun _=>?_) fun _=>⟨b,c,d,Z,_,_,_,_,_,rfl,hB,rB.mono (by omega),s6,b6⟩,?_⟩
 ·refine⟨by decide,fun p hp=>?_⟩;have s2:=Same.new hp (.lst []);refine jhO (s2 _ _ (s6 _ _ nM hM)) (zk (s6.trans s2.b)) jaf ⟨_,rfl,jcA (fun c=>?_) fun _=>⟨b,c,d,Z,_,_,_,_,_,rfl,hB.keep s2.t,rB.mono (by omega),s6.trans s2.b,b6.keep s2⟩⟩;obtain⟨r,⟨Z',sh⟩,k,lk,hr',⟨b',c',d',q1,q2,q3,q4,q5⟩,rB'⟩:=jgv (zk (s6.trans s2.b)) (by
   rintro rfl;exact absurd c (by decide))
  refine ixL (SqL.of (s2 _ _ (s6 _ _ nM hM))) (jc4 (n:=k) (v:=.ref r) (by rw[xaa];exact lk) (by rw[xaf,hr'];rfl)) ?_;refine⟨r,rfl,_,SqT.of q1,rfl,_,_,rfl,_,_,rfl,_,_,rfl,_,_,rfl,rfl,L,5,rfl,b6.keep s2,by decide,by decide,fun H7 x s3 b7 x0 x5=>⟨x,rfl,by decide,by decide,fun acc hacc=>?_⟩⟩;change RawOk n Z' at rB';have B':Bas H7 b' c' d' Z':=Bas.keep ⟨q2,q3,q4⟩ ((b6.keep s2).t s3);have s67:=s6.trans (s2.b.trans s3);refine jh8 (n:=3) (fun k=>.int (cmp Z'.s k+(x-2)*cmp Z'.c k*Z'.w)) (by decide) hacc (fun k H8 R hk s8 hR=>?_) fun H8 s8 e8=>?_
  ·have b8:=s8 _ _ B'.1;have c8:=s8 _ _ B'.2.1;have hc:=jeL rB'.b.c k;have fx:Fit (x-2):=Bd.fit (n:=61) (by unfold Bd;omega);have fc:Fit (cmp Z'.c k):=Bd.fit (n:=61) (by unfold Bd;omega);have fw:Fit Z'.w:=Bd.fit (n:=61) (by have:=rB'.b.w1;have:=rB'.b.w3;unfold Bd;omega);have fp:Fit ((x-2)*cmp Z'.c k):=Bd.fit (n:=200) (Bd.mono (Bd.mul (n:=61) (m:=61) (by unfold Bd;omega) (by unfold Bd;omega)));walk_at "rf";exact ixT (SqT.of b8) (jpQ Z'.s _ hk) (ixT (SqT.of c8) (cmp3 Z'.c hk) ⟨_,rfl,fx,fc,ixT (SqT.of b8) (i:=3) rfl ⟨_,rfl,fp,fw,_,rfl,hR _ (Same.refl _)⟩⟩)
  ·have b8:=s8 _ _ B'.1;walk_at "rf";refine ixT (SqT.of b8) (i:=3) rfl ⟨by decide,fun p2 hp2=>?_⟩;have j2:=Same.new hp2 (.lst [.int Z'.w]);refine⟨acc,p2,_,_,rfl,rfl,j2 _ _ e8,jaf,xa1 (jaF (show 3+1<1000 by decide)),fun p3 hp3=>?_⟩;refine⟨p3,rfl,_,SqL.of jaf,fun p4 hp4=>?_⟩;have s84:=(s8.trans j2).trans ((Same.new hp3 (.lst ((List.map (fun k=>V.int (cmp Z'.s k+(x-2)*cmp Z'.c k*Z'.w)) (List.range 3))++[.int Z'.w]))).trans (Same.new hp4 (.tup ((List.map (fun k=>V.int (cmp Z'.s k+(x-2)*cmp Z'.c k*Z'.w)) (List.range 3))++[.int Z'.w]))));have hx:(x-2).natAbs<=2:=by omega
   have hw:Z'.w.natAbs<=3:=by have:=rB'.b.w1;have:=rB'.b.w3;omega
   have e0:=jn0 (a:=cmp Z'.s 0) hx (jeL rB'.b.c 0) hw;have e1:=jn0 (a:=cmp Z'.s 1) hx (jeL rB'.b.c 1) hw;have e2:=jn0 (a:=cmp Z'.s 2) hx (jeL rB'.b.c 2) hw;have t0:=rB'.b.sx;have t1:=rB'.b.sy;have t2:=rB'.b.sz;change _<=Z'.s.x.natAbs+_ at e0;change _<=Z'.s.y.natAbs+_ at e1;change _<=Z'.s.z.natAbs+_ at e2;exact⟨p4,c',d',⟨⟨cmp Z'.s 0+(x-2)*cmp Z'.c 0*Z'.w,cmp Z'.s 1+(x-2)*cmp Z'.c 1*Z'.w,cmp Z'.s 2+(x-2)*cmp Z'.c 2*Z'.w⟩,Z'.w,Z'.c,Z'.d⟩,_,_,_,_,_,rfl,⟨jaf,s84 _ _ B'.2.1,s84 _ _ B'.2.2⟩,⟨⟨rB'.b.w1,rB'.b.w3,by show (cmp Z'.s 0+(x-2)*cmp Z'.c 0*Z'.w).natAbs<=_;omega,by show (cmp Z'.s 1+(x-2)*cmp Z'.c 1*Z'.w).natAbs<=_;omega,by show (cmp Z'.s 2+(x-2)*cmp Z'.c 2*Z'.w).natAbs<=_;omega,rB'.b.c,rB'.b.d⟩,rB'.nz⟩,s67.trans s84.b,b7.keep s84⟩
 rintro σ7 H7 ⟨b,c,d,Z,o2,o3,o7,o8,o9,rfl,hB,rB,s7,b7⟩;walk_at "rf";refine⟨L,6,rfl,b7,by decide,by decide,fun H8 x s8 b8 x0 x6=>⟨by decide,fun p hp=>?_⟩⟩;obtain⟨k,rfl⟩:=xbL x0;have hB8:=hB.keep (b7.t s8);have j:=Same.new hp (.tup [.ref b,.ref c,.ref d,.int (k:Nat)]);exact q p _ (Z,k) ((s7.trans s8).trans j.b) (b8.keep j) ⟨⟨b,c,d,jaf,j _ _ hB8.1,j _ _ hB8.2.1,j _ _ hB8.2.2,by omega⟩,rB⟩
def shp6:List (List (Int × Int)):=[[(0,0),(2,0),(0,2)],[(0,0),(3,1),(1,3)],[(0,0),(2,0),(2,2),(0,2)],[(0,0),(3,0),(2,1),(0,1)],[(0,0),(2,0),(3,1),(1,3),(0,1)],[(1,0),(2,0),(3,1),(3,2),(2,3),(0,1)]]
def plT (p:Int × Int):Tri:=⟨p.1-1,p.2-1,1⟩
def shp (i:Nat):List Tri:=(shp6.getD i []).map plT
def cM0 (H:Hp) (t b c d:Addr) (sh:Nat):L2.St->Hp->Prop:=fun σ H'=>σ=[some (.ref t),some (.ref b),some (.ref c),some (.ref d),some (.int (sh:Nat)),none,none,none,none,none]/\Same H H'
def cMr (H:Hp) (t b c d:Addr) (sh m:Nat):L2.St->Hp->Prop:=fun σ H'=>∃(g:Addr) (vs:List V),σ=[some (.ref t),some (.ref b),some (.ref c),some (.ref d),some (.int (sh:Nat)),some (.ref g),none,none,none,none]/\H' g=some (.lst vs)/\TabA (shp6.take m) vs H'/\Same H H'
theorem TabA.app:∀{pss qss:List (List (Int × Int))} {vs ws:List V} {H:Hp},TabA pss vs H->TabA qss ws H->TabA (pss++qss) (vs++ws) H
 | [],_,_,_,_,h,k=>by cases h;exact k
 | _::_,_,_,_,_,⟨v,ws,e,h1,h⟩,k=>by rw[e];exact⟨v,_,rfl,h1,h.app k⟩
theorem jgw {b:Int} {m:Nat} (ha:a.natAbs<=m) (hb:b.natAbs<=n):(a*b).natAbs<=m*n:=by
 rw[xcy];exact xcA ha hb
def rwc (Z:Sht) (v:Tri) (k:Nat):Int:=if k=0 then rX Z v else if k=1 then rY Z v else rZ Z v
theorem jpS {u:Int × Int} (h:k<3):cmp Z.s k+Z.w*((u.1-1)*cmp Z.c k+(u.2-1)*cmp Z.d k)=rwc Z (plT u) k:=by
 match k,h with
 | 0,_=>show Z.s.x+_=Z.s.x*1+_;rw[xbO];rfl
 | 1,_=>show Z.s.y+_=Z.s.y*1+_;rw[xbO];rfl
 | 2,_=>show Z.s.z+_=Z.s.z*1+_;rw[xbO];rfl
theorem jkd (h:v.z=1):rW Z v=Z.w:=by unfold rW;rw[h,xbO]
theorem jn1 (hw:1<=Z.w) (hv:1<=v.z):jec ⟨rX Z v,rY Z v,rZ Z v,rW Z v⟩=spt Z v:=by
 have W1:0<rW Z v:=xaq (by omega) (by omega);unfold jec;rw[if_neg (by show ¬rW Z v<0;omega)];rfl
theorem jke {s w p q:Int} (hs:s.natAbs<=2097152+n*8388608) (n9:n<=9) (hw:w.natAbs<=3) (hp:p.natAbs<=2) (hq:q.natAbs<=2) (hc:c.natAbs<=1000000) (hd:d.natAbs<=1000000):Bd 27 (s*1+w*(p*c+q*d)):=by
 have l1:=jgw hp hc;have l2:=jgw hq hd;have l3:=jgw hw (show (p*c+q*d).natAbs<=4000000 by omega);rw[xbO];unfold Bd;omega
theorem jmG (h:RawB n Z) (n9:n<=9) (h1:v.x.natAbs<=2) (h2:v.y.natAbs<=2) (h3:v.z=1):Bd 27 (rX Z v)/\Bd 27 (rY Z v)/\Bd 27 (rZ Z v)/\Bd 27 (rW Z v):=by
 have hw:Z.w.natAbs<=3:=by have:=h.w1;have:=h.w3;omega
 unfold rX rY rZ rW;rw[h3];refine⟨jke h.sx n9 hw h1 h2 h.c.1 h.d.1,jke h.sy n9 hw h1 h2 h.c.2.1 h.d.2.1,jke h.sz n9 hw h1 h2 h.c.2.2 h.d.2.2,?_⟩;rw[xbO];unfold Bd;omega
theorem PrP.ix {rs:List Addr} {ps:List (Int × Int)} (h:PrP H rs ps):∀{i:Nat} {r:Addr},rs[i]?=some r->∃p,ps[i]?=some p/\H r=some (.tup [.int p.1,.int p.2]):=by
  induction h with
  | nil=>intro i r z;cases z
  | cons h _ ih =>
    intro i r z;cases i with
    | zero=>cases z;exact⟨_,rfl,h⟩
    | succ i=>exact ih z
theorem jlP:∀i,i<6->∀p∈shp6.getD i [],0<=p.1/\p.1<=3/\0<=p.2/\p.2<=3:=by decide +kernel
theorem jlQ:∀i,i<6->3<=(shp6.getD i []).length/\(shp6.getD i []).length<=6:=by decide +kernel
def jmH:Sp:=fun vs H Q _=>∃(t:Addr) (n:Nat) (z:Sht × Nat),vs=[.ref t]/\RwAt n H t z/\n<=9/\∀(l:Addr) (H':Hp) (rs:List Addr),H l=none->Same H H'->Cor H' l rs ((shp z.2).map (spt z.1))->Q (.ref l) H'
theorem jn2 (T:Tx K mg t1 t2) (F:At K mg "_law_corners" jaW ["raw"] []) (dO:jal P w K mg base CX0 3 "made_spot" ["x","y","z","w"] [] jnt):jal P w K mg base CX0 4 "_law_corners" ["raw"] [] jmH:=by
 refine F.okW jcS (fun vs H Q E h=>?_) (fun f cdv A outer s H vs Q E hr h=>?_)
 ·obtain⟨t,n,z,rfl,_⟩:=h;rfl
 obtain⟨t,n,⟨Z,sh⟩,rfl,⟨⟨b,c,d,h1,h2,h3,h4,h6⟩,ok⟩,n9,q⟩:=h;have S:=jcS;refine⟨_,(jdk (cM0 H t b c d sh) ⟨(jcC (pv 0) (jdt rfl (jay (jan (i:=1) S.nd rfl (Or.inr rfl)) (jay (jan (i:=2) S.nd rfl (Or.inr rfl)) (jay (jan (i:=3) S.nd rfl (Or.inr rfl)) (jay (jan (i:=4) S.nd rfl (Or.inl rfl)) jbb))))))⟩
  (jdk (cMr H t b c d sh 3) (jf9 (jcE (jak (jcE (jak (ja0 (jak ⟨jab⟩ (jak ⟨jab⟩ jaL jam) jam)) (jak (ja0 (jak ⟨jab⟩ (jak ⟨jab⟩ jaL jam) jam)) (jak (ja0 (jak ⟨jab⟩ (jak ⟨jab⟩ jaL jam) jam)) jaL jaM) jaM) jaM)) (jak (jcE (jak (ja0 (jak ⟨jab⟩ (jak ⟨jab⟩ jaL jam) jam)) (jak (ja0 (jak ⟨jab⟩ (jak ⟨jab⟩ jaL jam) jam)) (jak (ja0 (jak ⟨jab⟩ (jak ⟨jab⟩ jaL jam) jam)) jaL jaM) jaM) jaM)) (jak (jcE (jak (ja0 (jak ⟨jab⟩ (jak ⟨jab⟩ jaL jam) jam)) (jak (ja0 (jak ⟨jab⟩ (jak ⟨jab⟩ jaL jam) jam)) (jak (ja0 (jak ⟨jab⟩ (jak ⟨jab⟩ jaL jam) jam)) (jak (ja0 (jak ⟨jab⟩ (jak ⟨jab⟩ jaL jam) jam)) jaL jaM) jaM) jaM) jaM)) jaL je0) je0) je0)) (jan (i:=5) S.nd rfl (Or.inl rfl)))
  (jdk (cMr H t b c d sh 5) (jf9 (jnZ jc7 ⟨(pv 5)⟩ (jcE (jak (jcE (jak (ja0 (jak ⟨jab⟩ (jak ⟨jab⟩ jaL jam) jam)) (jak (ja0 (jak ⟨jab⟩ (jak ⟨jab⟩ jaL jam) jam)) (jak (ja0 (jak ⟨jab⟩ (jak ⟨jab⟩ jaL jam) jam)) (jak (ja0 (jak ⟨jab⟩ (jak ⟨jab⟩ jaL jam) jam)) jaL jaM) jaM) jaM) jaM)) (jak (jcE (jak (ja0 (jak ⟨jab⟩ (jak ⟨jab⟩ jaL jam) jam)) (jak (ja0 (jak ⟨jab⟩ (jak ⟨jab⟩ jaL jam) jam)) (jak (ja0 (jak ⟨jab⟩ (jak ⟨jab⟩ jaL jam) jam)) (jak (ja0 (jak ⟨jab⟩ (jak ⟨jab⟩ jaL jam) jam)) (jak (ja0 (jak ⟨jab⟩ (jak ⟨jab⟩ jaL jam) jam)) jaL jaM) jaM) jaM) jaM) jaM)) jaL je0) je0))) (jan (i:=5) S.nd rfl (Or.inl rfl)))
  (jdk (cMr H t b c d sh 6) (jf9 (jnZ jc7 ⟨(pv 5)⟩ (jcE (jak (jcE (jak (ja0 (jak ⟨jab⟩ (jak ⟨jab⟩ jaL jam) jam)) (jak (ja0 (jak ⟨jab⟩ (jak ⟨jab⟩ jaL jam) jam)) (jak (ja0 (jak ⟨jab⟩ (jak ⟨jab⟩ jaL jam) jam)) (jak (ja0 (jak ⟨jab⟩ (jak ⟨jab⟩ jaL jam) jam)) (jak (ja0 (jak ⟨jab⟩ (jak ⟨jab⟩ jaL jam) jam)) (jak (ja0 (jak ⟨jab⟩ (jak ⟨jab⟩ jaL jam) jam)) jaL jaM) jaM) jaM) jaM) jaM) jaM)) jaL je0))) (jan (i:=5) S.nd rfl (Or.inl rfl)))
  ⟨(jae (jas (i:=6) S.nd rfl (Or.inl rfl) (jbs jac))
  (jae (jbE PassesOwn.never rfl (jbo (jaj ix_list (pv 5) (pv 4))) (jdt rfl (jay (jan (i:=7) S.nd rfl (Or.inr rfl)) (jay (jan (i:=8) S.nd rfl (Or.inr rfl)) jbb)))
  (jae (jas (i:=9) S.nd rfl (Or.inr rfl) (ja4 rfl (N':=["k","i","one","j","other"]) (ix:=[7,2,8,3]) ⟨rfl,rfl,by decide +kernel,by decide +kernel,by decide +kernel,(show ∀y:Str × NameKind,y∈_->y.2=NameKind.free->(jad jaW).names.lookup y.1=some .cell\/(jad jaW).names.lookup y.1=some .free from by decide +kernel),(.cons rfl (.inl rfl) rfl (.cons rfl (.inl rfl) rfl (.cons rfl (.inl rfl) rfl (.cons rfl (.inl rfl) rfl .nil))))⟩ (jaU rfl T.m_range (jaa jab jac jam)) (fun _ _ _ _=>jan (i:=0) (show (["k","i","one","j","other"]:List Str).Nodup from by decide +kernel) rfl (Or.inl rfl)) (fun _ _ _ _=>jaR) (fun _ _ _ _=>(jaq jbq (jaq jaw (jaq ja5 (pv 1) jab) (jaj (jaY (K:=K) rfl) (pv 2) (pv 0))) (jaq jaw (jaq ja5 (pv 3) jab) (jaj (jaY (K:=K) rfl) (pv 4) (pv 0)))))))
  (jae (jas (i:=9) S.nd rfl (Or.inr rfl) (ja4 rfl (N':=["k","base","place"]) (ix:=[1,9]) ⟨rfl,rfl,by decide +kernel,by decide +kernel,by decide +kernel,(show ∀y:Str × NameKind,y∈_->y.2=NameKind.free->(jad jaW).names.lookup y.1=some .cell\/(jad jaW).names.lookup y.1=some .free from by decide +kernel),(.cons rfl (.inl rfl) rfl (.cons rfl (.inl rfl) rfl .nil))⟩ (jaU rfl T.m_range (jaa jab jac jam)) (fun _ _ _ _=>jan (i:=0) (show (["k","base","place"]:List Str).Nodup from by decide +kernel) rfl (Or.inl rfl)) (fun _ _ _ _=>jaR) (fun _ _ _ _=>(jaq jbq (jaj (jaY (K:=K) rfl) (pv 1) (pv 0)) (jaq jaw (jaj (jaY (K:=K) rfl) (pv 1) jab) (jaj (jg8 (K:=K) rfl) (pv 2) (pv 0)))))))
  (jai (jb7 (jfm PySem.F.plainAttrs_list PySem.F.slot_list_append PySem.F.type_list_append jbe (pv 6) (jaa (jah dO hr.m rfl jat (jaa (jaj ix_list (pv 9) jab) (jaa (jaj ix_list (pv 9) jab) (jaa (jaj ix_list (pv 9) jab) (jaa (jaj jao (pv 1) jab) jac jau) jau) jau) jau)) jac jaN)))))))
  (jai (jap (pv 6)))))⟩)))),?_⟩
 have k1:SqT K H t [.ref b,.ref c,.ref d,.int (sh:Nat)]:=SqT.of h1;refine⟨?_,?_⟩
 ·walk_at "rf";exact⟨_,k1,rfl,_,_,rfl,_,_,rfl,_,_,rfl,_,_,rfl,rfl,rfl,Same.refl _⟩
 rintro σ0 H0 ⟨rfl,s0⟩;refine⟨?_,?_⟩
 ·refine jkb (pss:=shp6.take 3) ?_ (by decide) _ _ fun v J2 s2 hv=>?_
  ·show MkA _ _ (TabA [[(0,0),(2,0),(0,2)],[(0,0),(3,1),(1,3)],[(0,0),(2,0),(2,2),(0,2)]])
   repeat first
    | exact jfP
    | refine jeK (jka ?_ (by decide)) ?_
    | exact jfO
    | refine jeJ (jgU jow jow) ?_
  obtain⟨g,vs,rfl,hg,hT⟩:=hv;exact⟨g,vs,rfl,hg,hT,s0.trans s2⟩
 rintro σ1 H1 ⟨g,vs,rfl,hg,hT,s1⟩;refine⟨⟨_,rfl,?_⟩,?_⟩
 ·refine jkb (pss:=(shp6.drop 3).take 2) ?_ (by decide) _ _ fun v J2 s2 hv=>?_
  ·show MkA _ _ (TabA [[(0,0),(3,0),(2,1),(0,1)],[(0,0),(2,0),(3,1),(1,3),(0,1)]])
   repeat first
    | exact jfP
    | refine jeK (jka ?_ (by decide)) ?_
    | exact jfO
    | refine jeJ (jgU jow jow) ?_
  obtain⟨g2,ws,rfl,hg2,hT2⟩:=hv;have l1:=hT.len;have l2:=hT2.len;refine⟨g,g2,vs,ws,rfl,rfl,s2 _ _ hg,hg2,xa1 (jaF (by rw[l1,l2];decide)),fun p hp=>?_⟩;have j:=Same.new hp (.lst (vs++ws));exact⟨p,_,rfl,jaf,((hT.keep s2).app hT2).keep j,s1.trans (s2.trans j)⟩
 rintro σ2 H2 ⟨g,vs,rfl,hg,hT,s2⟩;refine⟨⟨_,rfl,?_⟩,?_⟩
 ·refine jkb (pss:=shp6.drop 5) ?_ (by decide) _ _ fun v J2 s3 hv=>?_
  ·show MkA _ _ (TabA [[(1,0),(2,0),(3,1),(3,2),(2,3),(0,1)]])
   repeat first
    | exact jfP
    | refine jeK (jka ?_ (by decide)) ?_
    | exact jfO
    | refine jeJ (jgU jow jow) ?_
  obtain⟨g2,ws,rfl,hg2,hT2⟩:=hv;have l1:=hT.len;have l2:=hT2.len;refine⟨g,g2,vs,ws,rfl,rfl,s3 _ _ hg,hg2,xa1 (jaF (by rw[l1,l2];decide)),fun p hp=>?_⟩;have j:=Same.new hp (.lst (vs++ws));exact⟨p,_,rfl,jaf,((hT.keep s3).app hT2).keep j,s2.trans (s3.trans j)⟩
 rintro σ3 H3 ⟨g,vs,rfl,hg,hT,s3⟩;walk_at "rf";refine⟨by decide,fun p hp=>?_⟩;refine jeP hp fun H4 s4 ep=>?_;obtain⟨v,ev,l,es,rfl,hl,hP⟩:=hT.get (i:=sh) (by show sh<6;exact h6);change PrP H3 es (shp6.getD sh []) at hP;have lim:=jlP sh h6;have len:=jlQ sh h6;have es':shp sh=(shp6.getD sh []).map plT:=rfl;rw[es'] at q;generalize shp6.getD sh []=qs at hP lim len q;have lP:=hP.len;refine ixL (SqL.of (s4 _ _ hg)) (v:=.ref l) (jaI ev) ⟨l,rfl,⟨_,SqL.of (s4 _ _ hl)⟩,?_⟩;have b3:=s3 _ _ h2;have c3:=s3 _ _ h3;have d3:=s3 _ _ h4;refine jbL (K:=K) (a:=l) (xs:=es.map V.ref) (fun i σ Hh=>∃(o7 o8 o9:Option V) (rs:List Addr),σ=[some (V.ref t),some (V.ref b),some (V.ref c),some (V.ref d),some (V.int (sh:Nat)),some (V.ref g),some (V.ref p),o7,o8,o9]/\Same H3 Hh/\Hh p=some (.lst (rs.map V.ref))/\Sps Hh rs ((qs.take i).map fun u=>spt Z (plT u))) ⟨_,_,_,[],rfl,s4,ep,.nil⟩ (fun i σ Hh _ ⟨_,_,_,_,_,sx,_⟩=>sx.seq (SqL.of hl)) ?_ ?_
 ·rintro i x σ Hh hi ⟨o7,o8,o9,rs,rfl,sx,kp,ks⟩;rw[xaf] at hi;obtain⟨r,hr',rfl⟩:=xaD.mp hi;obtain⟨u,hu,er⟩:=hP.ix hr';obtain⟨m1,m2,m3,m4⟩:=lim u (xav hu);walk_at "rf";refine⟨_,SqT.of (sx _ _ er),rfl,_,_,rfl,_,_,rfl,rfl,by decide,by decide,fun acc hacc=>?_⟩;have F1:Fit (u.1-1):=Bd.fit (n:=61) (by unfold Bd;omega);have F2:Fit (u.2-1):=Bd.fit (n:=61) (by unfold Bd;omega);have b4:=sx _ _ b3;have c4:=sx _ _ c3;have d4:=sx _ _ d3;have fz:∀{v:Tri} {k:Nat},(v.x.natAbs<=1000000/\v.y.natAbs<=1000000/\v.z.natAbs<=1000000)->Fit (cmp v k):=fun {v k} h=>Bd.fit (n:=61) (by have:=jeL h k;unfold Bd;omega);have okb:RawB n Z:=ok.b;refine jh8 (n:=3) (fun k=>.int ((u.1-1)*cmp Z.c k+(u.2-1)*cmp Z.d k)) (by decide) hacc (fun k H5 R hk s5 hR=>?_) fun H5 s5 e5=>?_
  ·walk_at "rf";exact ixT (SqT.of (s5 _ _ c4)) (cmp3 Z.c hk) ⟨_,rfl,F1,fz okb.c,ixT (SqT.of (s5 _ _ d4)) (cmp3 Z.d hk) ⟨_,rfl,F2,fz okb.d,hR _ (Same.refl _)⟩⟩
  walk_at "rf";refine⟨by decide,by decide,fun acc2 hacc2=>jh8 (n:=3) (fun k=>.int (rwc Z (plT u) k)) (by decide) hacc2 (fun k H6 R hk s6 hR=>?_) fun H6 s6 e6=>?_⟩
  ·have ea:atI (List.map (fun k=>V.int ((u.1-1)*cmp Z.c k+(u.2-1)*cmp Z.d k)) (List.range 3)) (0+(k:Int))=some (.int ((u.1-1)*cmp Z.c k+(u.2-1)*cmp Z.d k)):=by
    match k,hk with
    | 0,_=>rfl
    | 1,_=>rfl
    | 2,_=>rfl
   have l1:=jgw (show (u.1-1).natAbs<=2 by omega) (jeL okb.c k);have l2:=jgw (show (u.2-1).natAbs<=2 by omega) (jeL okb.d k);have ff:Fit ((u.1-1)*cmp Z.c k+(u.2-1)*cmp Z.d k):=Bd.fit (n:=61) (by unfold Bd;omega);have fw:Fit Z.w:=Bd.fit (n:=61) (by have:=okb.w1;have:=okb.w3;unfold Bd;omega);have b6:=s6 _ _ (s5 _ _ b4);walk_at "rf";refine ixT (SqT.of b6) (jpQ Z.s Z.w hk) (ixT (SqT.of b6) (i:=3) rfl (ixL (SqL.of (s6 _ _ e5)) ea ⟨_,rfl,_,rfl,fw,ff,_,rfl,?_⟩));have z:=hR _ (Same.refl _);rw[<- jpS (u:=u) hk] at z;exact z
  have b6:=s6 _ _ (s5 _ _ b4);have s56:=s5.trans s6;obtain⟨B1,B2,B3,B4⟩:=jmG (v:=plT u) okb n9 (show (u.1-1).natAbs<=2 by omega) (show (u.2-1).natAbs<=2 by omega) rfl;refine⟨.inl ⟨_,SqL.of (s56 _ _ kp)⟩,ixL (SqL.of e6) (i:=0) rfl (ixL (SqL.of e6) (i:=1) rfl (ixL (SqL.of e6) (i:=2) rfl (ixT (SqT.of b6) (i:=3) rfl ?_)))⟩;refine⟨⟨rX Z (plT u),rY Z (plT u),rZ Z (plT u),rW Z (plT u)⟩,by rw[jkd (show (plT u).z=1 from rfl)];rfl,⟨Bd.mono B1,Bd.mono B2,Bd.mono B3,Bd.mono B4⟩,by rw[jkd (show (plT u).z=1 from rfl)];have:=okb.w1;show Z.w≠0;omega,fun g2 H8 s8 h8=>?_⟩;rw[jn1 okb.w1 (show (1:Int)<=1 by decide)] at h8;have s58:=s56.trans s8;have sm:=SameT.upd (ys:=List.map V.ref rs++[V.ref g2]) (s58 _ _ kp);refine⟨p,_,_,rfl,rfl,s58 _ _ kp,jaF (by rw[xaa,ks.len,xaa,xau];omega),Same.keepN (sx.trans s58) hp _,rs++[g2],by rw[jaf,xaj];rfl,?_⟩;rw[xaZ,hu,xaj];exact ((ks.keep s58.t).keep sm).app (.cons ⟨sm _ _ h8.1,h8.2⟩ .nil)
 ·rintro σ Hh ⟨o7,o8,o9,rs,rfl,sx,kp,ks⟩;walk_at "rf";rw[xbd (by rw[xaa];omega)] at ks;exact q p _ rs (s3.noneN hp) (s3.trans sx) ⟨kp,by rw[xaO];exact ks⟩
inductive Tr
 | nil
 | nd (p:Pt) (here:List (Int × List Pt)) (b a:Tr)
def Tr.ht:Tr->Nat
 | .nil=>0
 | .nd _ _ b a=>max b.ht a.ht+1
def Tr.pcs:Tr->List (Int × List Pt)
 | .nil=>[]
 | .nd _ h b a=>h++b.pcs++a.pcs
def PlG (p:Pt):Prop:=(Bd 66 p.x/\Bd 66 p.y/\Bd 66 p.z)/\Bd 94 p.w
theorem PlG.neg (h:PlG p):PlG ⟨-p.x,-p.y,-p.z,-p.w⟩:=by
 obtain⟨⟨h1,h2,h3⟩,h4⟩:=h;refine⟨⟨?_,?_,?_⟩,?_⟩<;>(unfold Bd at *;rw[xcz];assumption)
structure SZ (Z:Sht):Prop where
 hw:1<=Z.w
 nz:Z.u.nz
 sp:∀v:Tri,v.bd 221->(spt Z v).bd 252
 ln:∀p:Pt,PlG p->PlOk Z p
def PcOk (ps:List Pt):Prop:=∃(Z:Sht) (vs:List Tri),SZ Z/\VF vs/\vs.length<=16/\RR (vs.map (spt Z)) ps
def Tr.Good (c:Nat):Tr->Prop
 | .nil=>True
 | .nd p h b a=>PlG p/\((∀x∈h,PcOk x.2)/\h.length<=c)/\b.Good c/\a.Good c
theorem Tr.Good.mono {c d:Nat} (l:c<=d):∀{T:Tr},T.Good c->T.Good d
 | .nil,_=>trivial
 | .nd _ _ _ _,⟨h1,⟨h2,h3⟩,h4,h5⟩=>⟨h1,⟨h2,xaE h3 l⟩,h4.mono l,h5.mono l⟩
def BoAt (H:Hp) (t:Addr) (b:List Pt):Prop:=∃rs,H t=some (.tup (rs.map V.ref))/\Sps H rs b
theorem BoAt.keep {t:Addr} {b:List Pt} (h:BoAt H t b) (s:SameT H H'):BoAt H' t b:=by
 obtain⟨rs,e,q⟩:=h;exact⟨rs,s _ _ e,q.keep s⟩
def PcAt (H:Hp) (r:Addr) (x:Int × List Pt):Prop:=∃t,H r=some (.tup [.int x.1,.ref t])/\BoAt H t x.2
theorem PcAt.keep {x:Int × List Pt} (h:PcAt H r x) (s:SameT H H'):PcAt H' r x:=by
 obtain⟨t,e,q⟩:=h;exact⟨t,s _ _ e,q.keep s⟩
inductive TrAt (H:Hp):V->Tr->Prop
 | nil:TrAt H .non .nil
 | nd {t g h:Addr} {rs:List Addr} {vb va:V} {p:Pt} {here:List (Int × List Pt)} {b a:Tr}:H t=some (.tup [.ref g,.ref h,vb,va])->Is4 H g p->H h=some (.tup (rs.map V.ref))->All2 (PcAt H) rs here->TrAt H vb b->TrAt H va a->TrAt H (.ref t) (.nd p here b a)
theorem TrAt.keep {v:V} {T:Tr} (h:TrAt H v T) (s:SameT H H'):TrAt H' v T:=by
 induction h with
 | nil=>exact .nil
 | nd h1 h2 h3 h4 _ _ i5 i6=>exact .nd (s _ _ h1) ⟨s _ _ h2.1,h2.2⟩ (s _ _ h3) (h4.mono fun _ _ h=>h.keep s) i5 i6
theorem jpT {f:V} (h:PtAt H Z f us):∃D,Rds K H f D/\PyData.canLay0 D=true/\PyData.depth D<=10/\PyData.eqv D .none=decide (us=[]):=by
 rcases h with ⟨rfl,rfl⟩ | ⟨ne,r,rfl,rs,h1,h2⟩
 ·exact⟨.none,.non,rfl,by decide,rfl⟩
 ·obtain⟨l1,l2,_⟩:=jjB (frm (us.map (spt Z)) (us.map (spt Z)));exact⟨jnq _,jjA h1 h2,l1,by omega,by rw[decide_eq_false ne];rfl⟩
theorem jn3 {t:Addr} {f0 f1:V} {p:Addr} (e:H t=some (.tup [f0,f1])) (h0:PtAt H Z f0 us) (h1:PtAt H Z f1 ws) (hp:H p=some (.tup [.non,.non])) (q:Q (.bl (decide (us=[]/\ws=[]))) H):ji5 K false (.ref t) (.ref p) H Q:=by
 obtain⟨D0,r0,l0,d0,e0⟩:=jpT (K:=K) h0;obtain⟨D1,r1,l1,d1,e1⟩:=jpT (K:=K) h1;refine⟨.tuple [D0,D1],.tuple [.none,.none],.tup (SqT.of e) (.cons r0 (.cons r1 .nil)),.tup (SqT.of hp) (.cons .non (.cons .non .nil)),?_,by decide,?_⟩
 ·unfold SeqAt.shaped;simp [PyData.canLay0,PyData.canLayAll0,PyData.depth,PyData.depthAll,l0,l1];omega
 ·have z:PyData.eqv (.tuple [D0,D1]) (.tuple [.none,.none])=decide (us=[]/\ws=[]):=by
   simp [PyData.eqv,PyData.eqvAll,e0,e1]
  rw[if_neg (by decide),z];exact q
theorem jgV (n:UP h vs≠[]):∃v∈vs,0<h v:=xal fun z=>n (jd8 z)
theorem jkf (hZ:SZ Z) (F:VF vs) (l:vs.length<=16) (r:RR (vs.map (spt Z)) ps):PcOk ps:=⟨Z,vs,hZ,F,l,r⟩
noncomputable section
def rgs (Z:Sht) (ws:List Tri):List Pt:=frm (ws.map (spt Z)) (ws.map (spt Z))
def dnX (Z:Sht) (p:Pt) (ws:List Tri):List Tri:=UP (hf (jc5 Z ⟨-p.x,-p.y,-p.z,-p.w⟩)) ws
def upX (Z:Sht) (p:Pt) (ws:List Tri):List Tri:=UP (hf (jc5 Z p)) ws
def grw (Z:Sht) (k:Int) (o:Pt):Tr->List Tri->Tr
 | .nil,ws=>.nd o [(k,rgs Z ws)] .nil .nil
 | .nd p h b a,ws=>if dnX Z p ws=[]/\upX Z p ws=[] then .nd p (h++[(k,rgs Z ws)]) b a else .nd p h (if dnX Z p ws=[] then b else grw Z k o b (dnX Z p ws)) (if upX Z p ws=[] then a else grw Z k o a (upX Z p ws))
end
variable {Z:Sht}
variable {us vs ws:List Tri}
theorem jiv (hZ:SZ Z) (hp:PlG p) (F:VF ws) (n:upX Z p ws≠[]):VF (upX Z p ws) :=
 F.up (hZ.ln _ hp).2.1 (hZ.ln _ hp).2.2.1 (hZ.ln _ hp).2.2.2 (jgV n)
theorem jiw (hZ:SZ Z) (hp:PlG p) (F:VF ws) (n:dnX Z p ws≠[]):VF (dnX Z p ws) :=
 F.up (hZ.ln _ hp.neg).2.1 (hZ.ln _ hp.neg).2.2.1 (hZ.ln _ hp.neg).2.2.2 (jgV n)
theorem jmI (F:VF ws):(upX Z p ws).length<=ws.length+1:=jhL (l:=jc5 Z p) F.rg
theorem jmJ (F:VF ws):(dnX Z p ws).length<=ws.length+1:=jhL (l:=jc5 Z ⟨-p.x,-p.y,-p.z,-p.w⟩) F.rg
theorem jkg (Z:Sht) (k:Int) (o:Pt):∀(T:Tr) (ws:List Tri),(grw Z k o T ws).ht<=T.ht+1
  | .nil,ws=>xae _
  | .nd p h b a, ws => by
    have hb:=jkg Z k o b (dnX Z p ws);have ha:=jkg Z k o a (upX Z p ws);have e0:(Tr.nd p h b a).ht=max b.ht a.ht+1:=rfl;unfold grw;rw[e0];split
    . show max b.ht a.ht+1 <= _
      omega
    . show max (Tr.ht (if _ then _ else _)) (Tr.ht (if _ then _ else _))+1 <= _
      split<;>split<;>omega
theorem jfQ {Z:Sht} {k:Int} {o:Pt} {c:Nat} (hZ:SZ Z) (ho:PlG o):∀{T:Tr} {ws:List Tri},T.Good c->VF ws->ws.length+T.ht<=16->(grw Z k o T ws).Good (c+1)
  | .nil,ws,_,F,l=>⟨ho,⟨fun x hx=>by rw[xam.mp hx];exact jkf hZ F (by omega) (jeI _ _),by show 1<=c+1;omega⟩,trivial,trivial⟩
  | .nd p h b a, ws, ⟨g1, ⟨g2, g3⟩, g4, g5⟩, F, l => by
    have l':ws.length+(max b.ht a.ht+1)<=16:=l;unfold grw;split
    . refine⟨g1,⟨fun x hx=>?_,by rw[xad]; show h.length+1 <= c+1; omega⟩,g4.mono (by omega),g5.mono (by omega)⟩
      rcases xaz.mp hx with hx | hx
      . exact g2 x hx
      . rw[xam.mp hx]
        exact jkf hZ F (by omega) (jeI _ _)
    . refine⟨g1,⟨g2,by omega⟩,?_,?_⟩
      . split
        . exact g4.mono (by omega)
        . rename_i n
          exact jfQ hZ ho g4 (jiw hZ g1 F n) (by have:=jmJ (Z:=Z) (p:=p) F;omega)
      . split
        . exact g5.mono (by omega)
        . rename_i n
          exact jfQ hZ ho g5 (jiv hZ g1 F n) (by have:=jmI (Z:=Z) (p:=p) F;omega)
theorem jfR {k:Int} {o:Pt} {h:List (Int × List Pt)} {b a:Tr} (e:dnX Z p ws=[]/\upX Z p ws=[]):grw Z k o (.nd p h b a) ws=.nd p (h++[(k,rgs Z ws)]) b a:=by
 have z:grw Z k o (.nd p h b a) ws=if dnX Z p ws=[]/\upX Z p ws=[] then .nd p (h++[(k,rgs Z ws)]) b a else .nd p h (if dnX Z p ws=[] then b else grw Z k o b (dnX Z p ws)) (if upX Z p ws=[] then a else grw Z k o a (upX Z p ws)):=by rw[grw]
 rw[z,if_pos e]
theorem jfS {k:Int} {o:Pt} {h:List (Int × List Pt)} {b a:Tr} (e:¬(dnX Z p ws=[]/\upX Z p ws=[])):grw Z k o (.nd p h b a) ws=.nd p h (if dnX Z p ws=[] then b else grw Z k o b (dnX Z p ws)) (if upX Z p ws=[] then a else grw Z k o a (upX Z p ws)):=by
 have z:grw Z k o (.nd p h b a) ws=if dnX Z p ws=[]/\upX Z p ws=[] then .nd p (h++[(k,rgs Z ws)]) b a else .nd p h (if dnX Z p ws=[] then b else grw Z k o b (dnX Z p ws)) (if upX Z p ws=[] then a else grw Z k o a (upX Z p ws)):=by rw[grw]
 rw[z,if_neg e]
def jn4 (n:Nat):Sp:=fun vs H Q _=>∃(v:V) (k:Int) (b o:Addr) (T:Tr) (p:Pt) (Z:Sht) (ws:List Tri) (c:Nat),vs=[v,.int k,.ref b,.ref o]/\TrAt H v T/\T.ht<n/\T.Good c/\c<900/\Is4 H o p/\PlG p/\SZ Z/\VF ws/\ws.length+T.ht<=16/\BdAt H Z b ws/\∀(t:Addr) (H':Hp),Same H H'->TrAt H' (.ref t) (grw Z k p T ws)->Q (.ref t) H'
theorem jkh {f sv:V} {S:Tr} {k:Int} {o:Addr} {c:Nat} {R:VK} {E:XK} (hP:PtAt H Z f us) (hS:TrAt H sv S) (hn:S.ht<n) (hG:S.Good c) (c9:c<900) (ho:Is4 H o p) (hp:PlG p) (hZ:SZ Z) (hF:us≠[]->VF us) (l16:us.length+S.ht<=16)
  (q:∀(v':V) (H':Hp),Same H H'->TrAt H' v' (if us=[] then S else grw Z k p S us)->R v' H'):if f=.non then R sv H else jn4 n [sv,.int k,f,.ref o] H R E:=by
 rcases hP with ⟨rfl,rfl⟩ | ⟨ne,r,rfl,hb⟩
 ·rw[if_pos rfl];exact q sv H (Same.refl _) (by rw[if_pos rfl];exact hS)
 ·rw[if_neg (fun z=>nomatch z)];exact⟨sv,k,r,o,S,p,Z,us,c,rfl,hS,hn,hG,c9,ho,hp,hZ,hF ne,l16,hb,fun t H' s' t'=>q _ H' s' (by rw[if_neg ne];exact t')⟩
theorem jn5 (T:Tx K mg t1 t2) (F:At K mg "grown_with" jbF ["tree","number","board","own"] []) (du:jal P w K mg base CX0 6 "cut_by" ["board","plane"] [] jgp) (dD:jal P w K mg base CX0 (7+n) "grown_with" ["tree","number","board","own"] [] (jn4 n)):jal P w K mg base CX0 (7+n+1) "grown_with" ["tree","number","board","own"] [] (jn4 (n+1)):=by
 refine F.ok jct (fun vs H Q E h=>?_) (fun f cdv Ar outer s H vs Q E hr h=>?_)
 ·obtain⟨v,k,b,o,T,p,Z,ws,c,rfl,_⟩:=h;rfl
 obtain⟨v,k,b,o,Tt,p,Z,ws,c,rfl,hT,hn,hG,c9,ho,hp,hZ,hF,l16,hb,q⟩:=h;have S:=jct;refine⟨_,(jae (jaO (jar jdY (pv 0) jbr (jaz _))
  (jai (jap (jaQ (jaa (pv 3) (jaa (jaQ (jaa (jaQ (jaa (pv 1) (jaa (pv 2) jac jag) jag)) jac jaM)) (jaa jbr (jaa jbr jac jam) jam) jaM) jag))))
  jaA)
  (jae (jas (i:=4) S.nd rfl (Or.inl rfl) (jah du (hr.mono (by omega)) rfl jat (jaa (pv 2) (jaa (jaj jao (pv 0) jab) jac jau) jag)))
  (jae (jaO (jar (jf8 (jgA hr)) (pv 4) (jaQ (jaa jbr (jaa jbr jac jam) jam)) (jaz _))
  (jai (jap (jaQ (jaa (jaj jao (pv 0) jab) (jaa (jaq jne (jaj jao (pv 0) jab) (jaQ (jaa (jaQ (jaa (pv 1) (jaa (pv 2) jac jag) jag)) jac jaM))) (jaa (jaj jao (pv 0) jab) (jaa (jaj jao (pv 0) jab) jac jau) jau) jbf) jau))))
  jaA)
  (jae (jas (i:=5) S.nd rfl (Or.inl rfl) (jfh (jar jdY (jaj jao (pv 4) jab) jbr (jaz _)) (jaj jao (pv 0) jab) (jah dD (hr.mono (by omega)) rfl jat (jaa (jaj jao (pv 0) jab) (jaa (pv 1) (jaa (jaj jao (pv 4) jab) (jaa (pv 3) jac jag) jau) jag) jau))))
  (jae (jas (i:=6) S.nd rfl (Or.inl rfl) (jfh (jar jdY (jaj jao (pv 4) jab) jbr (jaz _)) (jaj jao (pv 0) jab) (jah dD (hr.mono (by omega)) rfl jat (jaa (jaj jao (pv 0) jab) (jaa (pv 1) (jaa (jaj jao (pv 4) jab) (jaa (pv 3) jac jag) jau) jag) jau))))
  (jai (jap (jaQ (jaa (jaj jao (pv 0) jab) (jaa (jaj jao (pv 0) jab) (jaa (pv 5) (jaa (pv 6) jac jag) jag) jau) jau))))))))),?_⟩
 walk_at "rf";refine jcA (fun e=>?_) fun e=>?_
 ·subst e;cases hT;obtain⟨rs,hb1,hb2⟩:=hb;refine⟨by decide,fun p1 h1=>⟨by decide,fun p2 h2=>⟨by decide,fun p3 h3=>?_⟩⟩⟩;have j1:=Same.new h1 (.tup [.int k,.ref b]);have j2:=Same.new h2 (.tup [.ref p1]);have j3:=Same.new h3 (.tup [.ref o,.ref p2,.non,.non]);have jj:=j1.trans (j2.trans j3);exact q p3 _ jj (.nd (rs:=[p1]) jaf (ho.keep jj) (j3 _ _ jaf) (.cons ⟨b,j3 _ _ (j2 _ _ jaf),rs,jj _ _ hb1,hb2.keep jj.t⟩ .nil) .nil .nil)
 cases hT with
 | nil=>exact absurd rfl e
 | @nd t g h rs vb va pl here B A h1 h2 h3 h4 h5 h6 =>
 obtain⟨g1,⟨g2,g3⟩,g4,g5⟩:=hG;have O:=hZ.ln _ g1;have hh:max B.ht A.ht+1<n+1:=hn;have l16':ws.length+(max B.ht A.ht+1)<=16:=l16;refine ixT (SqT.of h1) (i:=0) rfl ?_;refine jlN hF hZ.hw hZ.nz (by omega) (fun u hu=>hZ.sp u (hF.bi.vb u hu)) O.1 O.2.1 O.2.2.1 O.2.2.2 hb h2 fun t' H1 f0 f1 s1 e1 P0 P1=>?_;change PtAt H1 Z f0 (dnX Z pl ws) at P0;change PtAt H1 Z f1 (upX Z pl ws) at P1;refine⟨by decide,fun p1 hp1=>?_⟩;have j1:=Same.new hp1 (.tup [.non,.non]);have s01:=s1.trans j1;refine jn3 (j1 _ _ e1) (P0.keep j1.t) (P1.keep j1.t) jaf ⟨_,rfl,jcA (fun cc=>?_) fun cc=>?_⟩
 ·have k1:SqT K (upd H1 p1 (.tup [.non,.non])) t [.ref g,.ref h,vb,va]:=SqT.of (s01 _ _ h1);refine ixT k1 (i:=0) rfl (ixT k1 (i:=1) rfl ⟨by decide,fun p2 hp2=>⟨by decide,fun p3 hp3=>?_⟩⟩);have j2:=Same.new hp2 (.tup [.int k,.ref b]);have j3:=Same.new hp3 (.tup [.ref p2]);have s03:=s01.trans (j2.trans j3);obtain⟨rb,hb1,hb2⟩:=hb;have lh:=h4.len;have cc':dnX Z pl ws=[]/\upX Z pl ws=[]:=of_decide_eq_true cc;rw[jfR cc'] at q;have fin:∀(x3 p4:Addr) (J:Hp),Same H J->(∃rs',J x3=some (.tup (rs'.map V.ref))/\All2 (PcAt J) rs' (here++[(k,rgs Z ws)]))->J p4=none->Q (.ref p4) (upd J p4 (.tup [.ref g,.ref x3,vb,va])):=fun x3 p4 J sJ ⟨rs',a1,a2⟩ n4=>by
   have j4:=Same.new n4 (.tup [.ref g,.ref x3,vb,va]);have sJ4:=sJ.trans j4;exact q p4 _ sJ4 (.nd jaf (h2.keep sJ4) (j4 _ _ a1) (a2.mono fun _ _ h=>h.keep j4.t) (h5.keep sJ4.t) (h6.keep sJ4.t))
  have pcN:∀{J:Hp},Same (upd (upd (upd H1 p1 (.tup [.non,.non])) p2 (.tup [.int k,.ref b])) p3 (.tup [.ref p2])) J->PcAt J p2 (k,rgs Z ws):=fun j=>⟨b,j _ _ (j3 _ _ jaf),rb,j _ _ (s03 _ _ hb1),(hb2.keep s03.t).keep j.t⟩;refine⟨h,p3,_,_,rfl,rfl,SqT.of (s03 _ _ h3),SqT.of jaf,(fun z=>nomatch z),xa1 (jaF (by rw[xaa];show rs.length+1<1000;omega)),fun z=>?_,fun z p4 hp4=>?_⟩
  ·have k3:=SqT.of (K:=K) (s03 _ _ h1);have e0:rs=[]:=List.map_eq_nil_iff.mp z;have e1:here=[]:=xa5.mp (by rw[<- lh,e0];rfl);refine ixT k3 (i:=2) rfl (ixT k3 (i:=3) rfl ⟨by decide,fun p5 hp5=>fin p3 p5 _ s03 ⟨[p2],jaf,?_⟩ hp5⟩);rw[e1];exact .cons (pcN (Same.refl _)) .nil
  ·have j4:=Same.new hp4 (.tup (rs.map V.ref++[.ref p2]));have k4:=SqT.of (K:=K) ((s03.trans j4) _ _ h1);exact ixT k4 (i:=2) rfl (ixT k4 (i:=3) rfl ⟨by decide,fun p5 hp5=>fin p4 p5 _ (s03.trans j4) ⟨rs++[p2],by rw[jaf,xaj];rfl,(h4.mono fun _ _ h=>h.keep (s03.trans j4).t).app (.cons (pcN j4) .nil)⟩ hp5⟩)
 ·unfold L2.tIf;walk_at "rf";generalize upd H1 p1 (.tup [.non,.non])=J at s01 j1;have vfU:upX Z pl ws≠[]->VF (upX Z pl ws):=jiv hZ g1 hF;have vfD:dnX Z pl ws≠[]->VF (dnX Z pl ws):=jiw hZ g1 hF;have lU:=jmI (Z:=Z) (p:=pl) hF;have lD:=jmJ (Z:=Z) (p:=pl) hF;have P0':=P0.keep j1.t;have P1':=P1.keep j1.t;have cc':¬(dnX Z pl ws=[]/\upX Z pl ws=[]):=fun z=>by rw[decide_eq_true z] at cc;exact cc rfl
  rw[jfS cc'] at q;have e1':=j1 _ _ e1;have jbd:∀(vb' va':V) (H':Hp) (B' A':Tr),Same J H'->TrAt H' vb' B'->TrAt H' va' A'->B'=(if dnX Z pl ws=[] then B else grw Z k p B (dnX Z pl ws))->A'=(if upX Z pl ws=[] then A else grw Z k p A (upX Z pl ws))->(jeZ K (V.ref t) (V.int 0) H' fun x_3 H1=>jeZ K (V.ref t) (V.int 1) H1 fun x_4 H1=>4<=sizeLine/\∀(p:Addr),H1 p=none->Q (V.ref p) (upd H1 p (HO.tup [x_3,x_4,vb',va']))):=fun vb' va' H' B' A' sJ tB tA eB eA=>by
   subst eB eA;have sH:=s01.trans sJ;have k3:=SqT.of (K:=K) (sH _ _ h1);refine ixT k3 (i:=0) rfl (ixT k3 (i:=1) rfl ⟨by decide,fun p hp=>?_⟩);have j:=Same.new hp (.tup [.ref g,.ref h,vb',va']);exact q p _ (sH.trans j) (.nd jaf (h2.keep (sH.trans j)) ((sH.trans j) _ _ h3) (h4.mono fun _ _ h=>h.keep (sH.trans j).t) (tB.keep j.t) (tA.keep j.t))
  have second:∀(x:V) (H':Hp) (B':Tr),Same J H'->TrAt H' x B'->B'=(if dnX Z pl ws=[] then B else grw Z k p B (dnX Z pl ws))->(jeZ K (V.ref t') (V.int 1) H' fun x_1 H1=>if x_1=V.non then jeZ K (V.ref t) (V.int 3) H1 fun x_2 H1=>jeZ K (V.ref t) (V.int 0) H1 fun x_3 H1=>jeZ K (V.ref t) (V.int 1) H1 fun x_4 H1=>4<=sizeLine/\∀(p:Addr),H1 p=none->Q (V.ref p) (upd H1 p (HO.tup [x_3,x_4,x,x_2])) else jeZ K (V.ref t) (V.int 3) H1 fun x_2 H1=>jeZ K (V.ref t') (V.int 1) H1 fun x_3 H1=>jn4 n [x_2,V.int k,x_3,V.ref o] H1 (fun x_4 H1=>jeZ K (V.ref t) (V.int 0) H1 fun x_5 H1=>jeZ K (V.ref t) (V.int 1) H1 fun x_6 H1=>4<=sizeLine/\∀(p:Addr),H1 p=none->Q (V.ref p) (upd H1 p (HO.tup [x_5,x_6,x,x_4]))) E0):=fun x H' B' sJ tB eB=>by
   have sH:=s01.trans sJ;have kt:=SqT.of (K:=K) (sH _ _ h1);have kp:=SqT.of (K:=K) (sJ _ _ e1');have sd:=jkh (n:=n) (E:=E0) (k:=k) (P1'.keep sJ.t) (h6.keep sH.t) (by omega) g5 c9 (ho.keep sH) hp hZ vfU (by omega) fun v' H'' s' t'=>jbd x v' H'' B' _ (sJ.trans s') (tB.keep s'.t) t' eB rfl;refine ixT kp (i:=1) rfl (jcA (fun z=>ixT kt (i:=3) rfl ?_) fun z=>ixT kt (i:=3) rfl (ixT kp (i:=1) rfl ?_))
   ·rw[if_pos z] at sd;exact sd
   ·rw[if_neg z] at sd;exact sd
  have kt:=SqT.of (K:=K) (s01 _ _ h1);have kp:=SqT.of (K:=K) e1';have sd:=jkh (n:=n) (E:=E0) (k:=k) P0' (h5.keep s01.t) (by omega) g4 c9 (ho.keep s01) hp hZ vfD (by omega) fun v' H'' s' t'=>second v' H'' _ s' t' rfl;refine ixT kp (i:=0) rfl (jcA (fun z=>ixT kt (i:=2) rfl ?_) fun z=>ixT kt (i:=2) rfl (ixT kp (i:=0) rfl ?_))
  ·rw[if_pos z] at sd;exact sd
  ·rw[if_neg z] at sd;exact sd
theorem jmK (T:Tx K mg t1 t2) (F:At K mg "grown_with" jbF ["tree","number","board","own"] []) (du:jal P w K mg base CX0 6 "cut_by" ["board","plane"] [] jgp):∀n:Nat,jal P w K mg base CX0 (7+n) "grown_with" ["tree","number","board","own"] [] (jn4 n)
 | 0=>F.ok (k:=6) jct (fun vs H Q E ⟨_,_,_,_,_,_,_,_,_,_,_,z,_⟩=>absurd z (xaR _)) fun f cdv Ar outer s H vs Q E hr ⟨_,_,_,_,_,_,_,_,_,_,_,z,_⟩=>absurd z (xaR _)
 | n+1=>jn5 T F du (jmK T F du n)
theorem ok_gx (T:Tx K mg t1 t2) (F:At K mg "grown_with" jbF ["tree","number","board","own"] []) (du:jal P w K mg base CX0 6 "cut_by" ["board","plane"] [] jgp):jal P w K mg base CX0 16 "grown_with" ["tree","number","board","own"] [] (jn4 9):=by
 exact jmK T F du 9
theorem jlR {A B C:Nat} {b z u v w:Int} (ha:Bd A a) (hb:Bd B b) (hc:Bd C c) (hx:Bd A x) (hy:Bd B y) (hz:Bd C z) (hu:Bd A u) (hv:Bd B v) (hw:Bd C w):Bd (A+B+C+3) (jbK a b c x y z u v w):=by
 unfold jbK;have e1:=Bd.mono (m:=A+B+C+1) (Bd.mul (Bd.sub (Bd.mul hb hz) (Bd.mono (Bd.mul hc hy) (m:=B+C) (by omega))) hu) (by omega);have e2:=Bd.mono (m:=A+B+C+1) (Bd.mul (Bd.sub (Bd.mul hc hx) (Bd.mono (Bd.mul ha hz) (m:=C+A) (by omega))) hv) (by omega);have e3:=Bd.mono (m:=A+B+C+2) (Bd.mul (Bd.sub (Bd.mul ha hy) (Bd.mono (Bd.mul hb hx) (m:=A+B) (by omega))) hw) (by omega);exact Bd.add (Bd.add e1 e2) e3
def Cn (p:Pt):Prop:=(Bd 28 p.x/\Bd 28 p.y/\Bd 28 p.z)/\Bd 2 p.w/\1<=p.w
theorem jn6 {a b c:Pt} (ha:Cn a) (hb:Cn b) (hc:Cn c):∃p:Pt,pln (rgh a b c)=[p.x,p.y,p.z,p.w]/\PlG p:=by
 obtain⟨⟨a1,a2,a3⟩,a4,_⟩:=ha;obtain⟨⟨b1,b2,b3⟩,b4,_⟩:=hb;obtain⟨⟨c1,c2,c3⟩,c4,_⟩:=hc;have m0:Bd 66 (jaB 0 a b c):=by show Bd 66 (jbK a.y a.z a.w b.y b.z b.w c.y c.z c.w);exact Bd.mono (jlR a2 a3 a4 b2 b3 b4 c2 c3 c4)
 have m1:Bd 66 (-jaB 1 a b c):=by show Bd 66 (-jbK a.x a.z a.w b.x b.z b.w c.x c.z c.w);exact (Bd.mono (jlR a1 a3 a4 b1 b3 b4 c1 c3 c4)).neg
 have m2:Bd 66 (jaB 2 a b c):=by show Bd 66 (jbK a.x a.y a.w b.x b.y b.w c.x c.y c.w);exact Bd.mono (jlR a1 a2 a4 b1 b2 b4 c1 c2 c4)
 have m3:Bd 94 (jaB 3 a b c):=by show Bd 94 (jbK a.x a.y a.z b.x b.y b.z c.x c.y c.z);exact Bd.mono (jlR a1 a2 a3 b1 b2 b3 c1 c2 c3)
 unfold rgh;generalize jaB 0 a b c=x at m0;generalize -jaB 1 a b c=y at m1;generalize jaB 2 a b c=z at m2;generalize jaB 3 a b c=v at m3;have e:pln [x,y,z,v]=if plb (x / gl [x,y,z,v]) (y / gl [x,y,z,v]) (z / gl [x,y,z,v])=true then [x / gl [x,y,z,v],y / gl [x,y,z,v],z / gl [x,y,z,v],v / gl [x,y,z,v]] else [-(x / gl [x,y,z,v]),-(y / gl [x,y,z,v]),-(z / gl [x,y,z,v]),-(v / gl [x,y,z,v])]:=rfl;rw[e];by_cases h:plb (x / gl [x,y,z,v]) (y / gl [x,y,z,v]) (z / gl [x,y,z,v])=true
 ·rw[if_pos h];exact⟨⟨_,_,_,_⟩,rfl,⟨Bd.div m0,Bd.div m1,Bd.div m2⟩,Bd.div m3⟩
 ·rw[if_neg h];exact⟨⟨_,_,_,_⟩,rfl,⟨Bd.neg (Bd.div m0),Bd.neg (Bd.div m1),Bd.neg (Bd.div m2)⟩,Bd.neg (Bd.div m3)⟩
theorem PlG.sm (h:PlG p):p.sm:=⟨Bd.mono h.1.1,Bd.mono h.1.2.1,Bd.mono h.1.2.2,Bd.mono h.2⟩
def OB (ps:List Pt):Prop:=(∃(Z:Sht) (ws:List Tri),SZ Z/\VF ws/\ws.length<=6/\ps=frm (ws.map (spt Z)) (ws.map (spt Z)))/\∀p∈ps,Cn p
def chkR (vs:List Tri):Bool:=((List.range vs.length).all fun i=>(List.range vs.length).all fun j=>(List.range vs.length).all fun k=>!(decide (i<j)&&decide (j<k))||decide (0<dt (tr vs i) (tr vs j) (tr vs k)))&&vs.all fun v=>decide (1<=v.z)
theorem jki (h:chkR vs=true):TpL vs/\∀v∈vs,1<=v.z:=by
 unfold chkR at h;rw[xbM] at h;obtain⟨h1,h2⟩:=h;refine⟨fun i j k ij jk kn=>?_,fun v hv=>of_decide_eq_true (xbr.mp h2 v hv)⟩;have z:=xbr.mp (xbr.mp (xbr.mp h1 i (xaY.mpr (by omega))) j (xaY.mpr (by omega))) k (xaY.mpr kn);rw[decide_eq_true ij,decide_eq_true jk] at z;exact of_decide_eq_true z
theorem jkj:∀i,i<6->chkR (shp i)=true:=by decide +kernel
theorem jkk:∀i,i<6->∀v∈shp i,(v.x.natAbs<=2/\v.y.natAbs<=2)/\v.z=1:=by decide +kernel
theorem jn7:∀i,i<6->3<=(shp i).length/\(shp i).length<=6:=by decide +kernel
theorem jkl (h:i<6):Rng (shp i):=⟨(jn7 i h).1,(jki (jkj i h)).1,(jki (jkj i h)).2⟩
theorem jpU (h:i<6):VF (shp i):=VF.six (jkl h) fun v hv=>by
 obtain⟨⟨h1,h2⟩,h3⟩:=jkk i h v hv;refine⟨?_,?_,?_⟩<;>(unfold Bd;omega)
theorem RawB.bds (h:RawB n Z) (n9:n<=9):(Bd 27 Z.s.x/\Bd 27 Z.s.y/\Bd 27 Z.s.z)/\Bd 2 Z.w/\(Bd 20 Z.c.x/\Bd 20 Z.c.y/\Bd 20 Z.c.z)/\Bd 20 Z.d.x/\Bd 20 Z.d.y/\Bd 20 Z.d.z:=by
 have h1:=h.sx;have h2:=h.sy;have h3:=h.sz;have h4:=h.w1;have h5:=h.w3;have h6:=h.c;have h7:=h.d;unfold Bd;omega
theorem sz_of (h:RawOk n Z) (n9:n<=9):SZ Z:=by
 obtain⟨⟨s1,s2,s3⟩,hw,⟨c1,c2,c3⟩,d1,d2,d3⟩:=h.b.bds n9;refine⟨h.b.w1,h.nz,fun v ⟨v1,v2,v3⟩=>?_,fun p ⟨⟨p1,p2,p3⟩,p4⟩=>?_⟩
 ·have one:∀{s c d:Int},Bd 27 s->Bd 20 c->Bd 20 d->Bd 252 (s*v.z+Z.w*(v.x*c+v.y*d)):=fun hs hc hd =>
   Bd.mono (Bd.add (n:=248) (Bd.mono (Bd.mul hs v3)) (Bd.mono (Bd.mul hw (Bd.add (n:=241) (Bd.mul v1 hc) (Bd.mul v2 hd)))))
  exact⟨Bd.div (one s1 c1 d1),Bd.div (one s2 c2 d2),Bd.div (one s3 c3 d3),Bd.div (Bd.mono (Bd.mul hw v3))⟩
 ·have one:∀{c d e:Int},Bd 20 c->Bd 20 d->Bd 20 e->Bd 110 (Z.w*(p.x*c+p.y*d+p.z*e)):=fun hc hd he =>
   Bd.mono (Bd.mul hw (Bd.add (n:=87) (Bd.add (n:=86) (Bd.mul p1 hc) (Bd.mul p2 hd)) (Bd.mono (Bd.mul p3 he))))
  refine⟨⟨Bd.mono p1,Bd.mono p2,Bd.mono p3,Bd.mono p4⟩,one c1 c2 c3,one d1 d2 d3,?_⟩;exact Bd.mono (Bd.sub (n:=96) (Bd.mono (Bd.add (n:=94) (Bd.add (n:=93) (Bd.mul p1 s1) (Bd.mul p2 s2)) (Bd.mono (Bd.mul p3 s3)))) (Bd.mul p4 hw))
theorem cn_of (h:RawOk n Z) (n9:n<=9) (hi:i<6):∀v∈shp i,Cn (spt Z v):=fun v hv=>by
 obtain⟨⟨h1,h2⟩,h3⟩:=jkk i hi v hv;obtain⟨B1,B2,B3,B4⟩:=jmG h.b n9 h1 h2 h3;refine⟨⟨Bd.mono (Bd.div B1),Bd.mono (Bd.div B2),Bd.mono (Bd.div B3)⟩,?_,jgn h.b.w1 (show 1<=v.z by omega)⟩;show Bd 2 (rW Z v / rG Z v);rw[jkd h3];exact Bd.div (h.b.bds n9).2.1
theorem ob_of (h:RawOk n Z) (n9:n<=9) (hi:i<6) (r:ps=frm ((shp i).map (spt Z)) ((shp i).map (spt Z))):OB ps:=by
 refine⟨⟨Z,shp i,sz_of h n9,jpU hi,(jn7 i hi).2,r⟩,fun p hp=>?_⟩;obtain⟨v,hv,e⟩:=xax.mp ((jeI _ _).mem.mp (show p∈frm ((shp i).map (spt Z)) ((shp i).map (spt Z)) by rw[<- r];exact hp));rw[<- e];exact cn_of h n9 hi v hv
def SomeAt (m:Nat) (H:Hp) (S:Addr) (xs:List (Int × List Pt)):Prop:=∃rs,H S=some (.lst (rs.map V.ref))/\All2 (PcAt H) rs xs/\(∀x∈xs,OB x.2)/\xs.length=m/\(xs.map (·.1)).Nodup
def jpV (m:Nat) (H:Hp) (R:Addr):Prop:=∃(rs:List Addr) (zs:List (Sht × Nat)),H R=some (.lst (rs.map V.ref))/\All2 (RwAt 8 H) rs zs/\zs.length=m
theorem jhP:∀us:List Int,∃M:Int,∀u∈us,u<M
  | []=>⟨0,fun _ z=>nomatch z⟩
  | u :: us => by
    obtain⟨M,h⟩:=jhP us;refine⟨max M (u+1),fun v hv=>?_⟩;rcases xap.mp hv with rfl | hv
    . omega
    . have:=h v hv
      omega
theorem jlS (xs:List Int):(xs.map V.int).all jfk=true:=by
 rw[xbr];intro v hv;obtain⟨x,_,rfl⟩:=xax.mp hv;rfl
theorem jn8 (x:Int) (xs:List Int):inV (.int x) (xs.map V.int)=decide (x∈xs):=by
 unfold inV;rw[List.any_map];have e:(xs.any ((fun z=>eqV z (.int x))∘V.int))=xs.any fun z=>z==x:=rfl;rw[e];by_cases c:x∈xs
 ·rw[decide_eq_true c,List.any_eq_true];exact⟨x,c,beq_self_eq_true x⟩
 ·rw[decide_eq_false c,List.any_eq_false];intro z hz e;exact c (by rw[<- eq_of_beq e];exact hz)
def jmL (K:PySem.W.Frag):Sp:=fun vs H Q _=>∃(a:Addr) (cs:List Int),vs=[.ref a]/\SqL K H a (cs.map V.int)/\cs.length<=5/\∀(t S R:Addr) (H':Hp) (xs:List (Int × List Pt)),Same H H'->H S=none->H R=none->H' t=some (.tup [.ref S,.ref R])->SomeAt cs.length H' S xs->jpV cs.length H' R->Q (.ref t) H'
theorem jn9 (T:Tx K mg t1 t2) (F:At K mg "_law_some" jdr ["cells"] []) (dE:jal P w K mg base CX0 1 "_law_state" ["cell"] [] jnU) (Dp:jal P w K mg base CX0 3 "_law_raw" ["state","made"] [] jpP) (de:jal P w K mg base CX0 1 "_law_next" ["state","many"] [] jox) (Da:jal P w K mg base CX0 4 "_law_corners" ["raw"] [] jmH) (Dj:jal P w K mg base CX0 6 "made_board" ["corners"] [] jjt):jal P w K mg base CX0 7 "_law_some" ["cells"] [] (jmL K):=by
 refine F.ok jd5 (fun vs H Q E h=>?_) (fun f cdv A outer s H vs Q E hr h=>?_)
 ·obtain⟨a,cs,rfl,_⟩:=h;rfl
 obtain⟨a,cs,rfl,k1,l5,q⟩:=h;have S:=jd5;refine⟨_,(jae (jas (i:=1) S.nd rfl (Or.inl rfl) (jbs jac))
  (jae (jas (i:=2) S.nd rfl (Or.inl rfl) (jbs jac))
  (jae (jas (i:=3) S.nd rfl (Or.inl rfl) (jbs jac))
  (jae (jbE PassesOwn.never rfl (jbo (pv 0)) (jan (i:=4) S.nd rfl (Or.inl rfl))
  (jae (jas (i:=5) S.nd rfl (Or.inl rfl) (jah dE hr.m rfl jat (jaa (pv 4) jac jag)))
  (jae (jb7 (jfm PySem.F.plainAttrs_list PySem.F.slot_list_append PySem.F.type_list_append jbe (pv 1) (jaa (jah Dp hr.m rfl jat (jaa (pv 5) (jaa (pv 1) jac jag) jag)) jac jaN)))
  (jae (jas (i:=6) S.nd rfl (Or.inl rfl) (jaq ja5 (jah de hr.m rfl jat (jaa (pv 5) (jaa (jaj ix_list (jbs (jaa jab (jaa jab (jaa jab jac jam) jam) jam)) (jah de hr.m rfl jat (jaa (pv 5) (jaa jab jac jam) jag))) jac jau) jag)) jab))
  (jae (jdu PassesOwn.never (jar jiY (pv 6) (pv 3) rfl)
  (jai (jas (i:=6) S.nd rfl (Or.inl rfl) (jaq jbq (pv 6) jab))))
  (jae (jb7 (jfm PySem.F.plainAttrs_list PySem.F.slot_list_append PySem.F.type_list_append jbe (pv 3) (jaa (pv 6) jac jag)))
  (jai (jb7 (jfm PySem.F.plainAttrs_list PySem.F.slot_list_append PySem.F.type_list_append jbe (pv 2) (jaa (jaQ (jaa (pv 6) (jaa (jah Dj hr.m rfl jat (jaa (jah Da hr.m rfl jat (jaa (jaj ix_list (pv 1) (jd9 jcv jab)) jac jau)) jac jaN)) jac jaN) jag)) jac jaM))))))))))
  (jai (jap (jaQ (jaa (pv 2) (jaa (pv 1) jac jag) jag)))))))),?_⟩
 walk_at "rf";refine⟨by decide,fun R hR=>⟨by decide,fun S hS=>⟨by decide,fun U hU=>?_⟩⟩⟩;have j1:=Same.new hR (.lst []);have j2:=Same.new hS (.lst []);have j3:=Same.new hU (.lst []);have RS:R≠S:=jax (show upd H R (.lst []) R=some (.lst []) from jaf) hS;have RU:R≠U:=jax (j2 _ _ (show upd H R (.lst []) R=some (.lst []) from jaf)) hU;have SU:S≠U:=jax (show upd (upd H R (.lst [])) S (.lst []) S=some (.lst []) from jaf) hU;have eR0:=j3 _ _ (j2 _ _ (show upd H R (.lst []) R=some (.lst []) from jaf));have eS0:=j3 _ _ (show upd (upd H R (.lst [])) S (.lst []) S=some (.lst []) from jaf);have eU0:upd (upd (upd H R (.lst [])) S (.lst [])) U (.lst []) U=some (.lst []):=jaf;have hS0:=j1.noneN hS;have hU0:=j1.noneN (j2.noneN hU);have s0:=j1.trans (j2.trans j3);generalize upd (upd (upd H R (.lst [])) S (.lst [])) U (.lst [])=H0 at eR0 eS0 eU0 s0 |-
 clear j1 j2 j3 hS hU;refine⟨⟨_,s0.seq k1⟩,jbL (K:=K) (a:=a) (xs:=cs.map V.int) (fun i σ Hh=>∃(o4 o5 o6:Option V) (rs:List Addr) (zs:List (Sht × Nat)) (ps:List Addr) (xs:List (Int × List Pt)) (us:List Int),σ=[some (.ref a),some (.ref R),some (.ref S),some (.ref U),o4,o5,o6]/\Same H Hh/\(Hh R=some (.lst (rs.map V.ref))/\All2 (RwAt i Hh) rs zs/\zs.length=i)/\(Hh S=some (.lst (ps.map V.ref))/\All2 (PcAt Hh) ps xs/\(∀x∈xs,OB x.2)/\xs.length=i)/\Hh U=some (.lst (us.map V.int))/\us.length=i/\us=xs.map (·.1)/\us.Nodup) ⟨_,_,_,[],[],[],[],[],rfl,s0,⟨eR0,.nil,rfl⟩,⟨eS0,.nil,(fun _ z=>nomatch z),rfl⟩,eU0,rfl,rfl,List.nodup_nil⟩ (fun i σ Hh _ ⟨_,_,_,_,_,_,_,_,_,sx,_⟩=>sx.seq k1) ?_ ?_⟩
 ·rintro i v σ Hh hi ⟨o4,o5,o6,rs,zs,ps,xs,us,rfl,sx,⟨eR,aR,lz⟩,⟨eS,aS,ob,lx⟩,eU,lu,eus,nd⟩;obtain⟨c,rfl,hc⟩:=jjm hi;have il:i<cs.length:=(xag.mp hc).1;have lrs:=aR.len;have lps:=aS.len;walk_at "rf";refine⟨c,rfl,fun L H1 nL s1 b1=>?_⟩;have RL:R≠L:=jax eR nL;have SL:S≠L:=jax eS nL;have UL:U≠L:=jax eU nL;refine⟨.inl ⟨_,SqL.of (s1 _ _ eR)⟩,L,R,i,rs,zs,rfl,b1,RL,s1 _ _ eR,aR.mono fun _ _ h=>h.keep s1.t,by omega,by omega,fun t H2 z s2 b2 hz=>?_⟩;have R2:=s2 _ _ RL (s1 _ _ eR);have S2:=s2 _ _ SL (s1 _ _ eS);have U2:=s2 _ _ UL (s1 _ _ eU);have t2:SameT Hh H2:=s1.t.trans (b1.t s2);have x2:Same H H2:=fun b o e=>s2 b o (fun z=>by rw[z] at e;rw[sx _ _ e] at nL;cases nL) (s1 _ _ (sx _ _ e));refine⟨R,_,_,rfl,rfl,R2,jaF (by rw[xaa];omega),?_⟩;have nR:H R=none:=hR;have nLH:H L=none:=sx.noneN nL;have tu:=SameT.upd (ys:=rs.map V.ref++[V.ref t]) R2;have aR3:All2 (RwAt (i+1) (upd H2 R (.lst (rs.map V.ref++[V.ref t])))) (rs++[t]) (zs++[z]):=(aR.mono fun _ _ h=>(RwAt.keep (n:=i+1) ⟨h.1,h.2.mono (by omega)⟩ (t2.trans tu))).app (.cons (hz.keep tu) .nil);have aS3:All2 (PcAt (upd H2 R (.lst (rs.map V.ref++[V.ref t])))) ps xs:=aS.mono fun _ _ h=>h.keep (t2.trans tu);have R3:upd H2 R (.lst (rs.map V.ref++[V.ref t])) R=some (.lst ((rs++[t]).map V.ref)):=by rw[jaf,xaj];rfl
  have S3:upd H2 R (.lst (rs.map V.ref++[V.ref t])) S=some (.lst (ps.map V.ref)):=by rw[jaC (Ne.symm RS)];exact S2
  have U3:upd H2 R (.lst (rs.map V.ref++[V.ref t])) U=some (.lst (us.map V.int)):=by rw[jaC (Ne.symm RU)];exact U2
  have x3:Same H (upd H2 R (.lst (rs.map V.ref++[V.ref t]))):=Same.keepN x2 nR _;have b3:Sta (upd H2 R (.lst (rs.map V.ref++[V.ref t]))) L:=by
   obtain⟨p,q,h1,h2⟩:=b2;exact⟨p,q,by rw[jaC (Ne.symm RL)];exact h1,h2⟩
  have hz3:=hz.keep tu;have e3:(rs++[t]).length=i+1:=by rw[xad,lrs,lz];rfl
  have e3':(rs++[t])[i]?=some t:=by rw[xat (by omega)];rw[show i-rs.length=0 by omega];rfl
  have e4:(zs++[z]).length=i+1:=by rw[xad,lz];rfl
  generalize upd H2 R (.lst (rs.map V.ref++[V.ref t]))=H3 at tu aR3 aS3 R3 S3 U3 x3 b3 hz3 |-
  generalize rs++[t]=rs' at aR3 R3 e3 e3';generalize zs++[z]=zs' at aR3 e4;clear tu t2 R2 S2 U2 x2 s2 b2 s1 b1 eR aR eS aS eU hz;refine⟨by decide,fun p hp=>?_⟩;refine jeP hp fun H4 j ep=>?_;refine⟨L,3,rfl,b3.keep j,by decide,by decide,fun H5 d s5 b5 d0 d3=>?_⟩;obtain⟨m,em,m1,m2⟩:∃m:Int,atI [V.int 9,V.int 9,V.int 2000001] d=some (.int m)/\0<m/\m<2^60:=by
   have:d=0\/d=1\/d=2:=by omega
   rcases this with rfl | rfl | rfl
   ·exact⟨9,rfl,by decide,by decide⟩
   ·exact⟨9,rfl,by decide,by decide⟩
   ·exact⟨2000001,rfl,by decide,by decide⟩
  refine ixL (SqL.of (s5 _ _ (b3.ne hp) ep)) em ⟨L,m,rfl,b5,m1,m2,fun H6 k s6 b6 k0 km=>⟨k,rfl,?_⟩⟩;have s36:SameB L H3 H6:=j.b.trans (s5.trans s6);have t36:SameT H3 H6:=b3.t s36;have R6:=s36 _ _ RL R3;have S6:=s36 _ _ SL S3;have U6:=s36 _ _ UL U3;have x6:Same H H6:=fun b o e=>s36 b o (jax e nLH) (x3 _ _ e);have aR6:=aR3.mono fun _ _ h=>RwAt.keep h t36;have aS6:=aS3.mono fun _ _ h=>PcAt.keep h t36;have hz6:=hz3.keep t36;clear s36 t36 s6 s5 j ep R3 S3 U3 x3 aR3 aS3 hz3;obtain⟨M,hM⟩:=jhP us;generalize k-4=a0;refine⟨fun n σ Hk=>Hk=H6/\∃y:Int,σ=[some (.ref a),some (.ref R),some (.ref S),some (.ref U),some (.int c),some (.ref L),some (.int y)]/\n=(M-y).toNat,⟨_,rfl,a0,rfl,rfl⟩,?_⟩;rintro n σ Hk ⟨rfl,y,rfl,rfl⟩;walk_at "rf";refine⟨U,_,rfl,.inl (SqL.of U6),rfl,jlS us,?_⟩;rw[jn8];refine⟨_,rfl,jcA (fun cc=>?_) fun cc=>?_⟩
  ·rw[if_neg (by decide)] at cc;have yu:y∈us:=of_decide_eq_true cc;exact⟨fun σ' H'=>σ'=[some (.ref a),some (.ref R),some (.ref S),some (.ref U),some (.int c),some (.ref L),some (.int (y+1))]/\H'=Hk,fun σ' H' ⟨h1,h2⟩=>⟨(M-(y+1)).toNat,by have:=hM y yu;omega,h2,y+1,h1,rfl⟩,rfl,rfl⟩
  rw[if_neg (by decide)] at cc;have yn:y∉us:=fun h=>cc (decide_eq_true h);refine⟨.inl ⟨_,SqL.of U6⟩,U,_,_,rfl,rfl,U6,jaF (by rw[xaa];omega),?_⟩;have tu:=SameT.upd (ys:=us.map V.int++[V.int y]) U6;have R7:upd Hk U (.lst (us.map V.int++[V.int y])) R=some (.lst (rs'.map V.ref)):=by rw[jaC RU];exact R6
  have S7:upd Hk U (.lst (us.map V.int++[V.int y])) S=some (.lst (ps.map V.ref)):=by rw[jaC SU];exact S6
  have U7:upd Hk U (.lst (us.map V.int++[V.int y])) U=some (.lst ((us++[y]).map V.int)):=by rw[jaf,xaj];rfl
  have x7:Same H (upd Hk U (.lst (us.map V.int++[V.int y]))):=Same.keepN x6 hU0 _;have aR7:=aR6.mono fun _ _ h=>RwAt.keep h tu;have aS7:=aS6.mono fun _ _ h=>PcAt.keep h tu;have hz7:=hz6.keep tu;generalize upd Hk U (.lst (us.map V.int++[V.int y]))=H7 at tu R7 S7 U7 x7 aR7 aS7 hz7 |-
  refine⟨.inl ⟨_,SqL.of S7⟩,ixL (SqL.of R7) (jc4 (n:=i) (v:=.ref t) (by rw[xaa];exact e3) (by rw[xaf,e3'];rfl)) ?_⟩;have h6:z.2<6:=by
   obtain⟨⟨_,_,_,_,_,_,_,h⟩,_⟩:=hz7;exact h
  refine⟨t,i+1,z,rfl,hz7,by omega,fun l H8 ws nl s8 hc8=>?_⟩;refine⟨l,ws,_,rfl,hc8,jhN hz7.2.b.w1 hz7.2.nz (jkl h6) (by have:=(jn7 z.2 h6).2;omega),fun bt H9 s9 e9=>⟨by decide,fun p hp=>?_⟩⟩;have j:=Same.new hp (.tup [.int y,.ref bt]);have s710:=(s8.trans s9).trans j;have ep:upd H9 p (.tup [.int y,.ref bt]) p=some (.tup [.int y,.ref bt]):=jaf;have ebt:=j _ _ e9;have sbt:=Sps.frm (ps:=(shp z.2).map (spt z.1)) ((hc8.2.keep s9.t).keep j.t);generalize upd H9 p (.tup [.int y,.ref bt])=H10 at j s710 ep ebt sbt |-
  have S10:=s710 _ _ S7;have tu2:=SameT.upd (ys:=ps.map V.ref++[V.ref p]) S10;refine⟨S,_,_,rfl,rfl,S10,jaF (by rw[xaa];omega),Same.keepN (x7.trans s710) hS0 _,rs',by rw[jaC RS];exact s710 _ _ R7,zs',aR7.mono fun _ _ h=>RwAt.keep h (s710.t.trans tu2),e4,ps++[p],by rw[jaf,xaj];rfl,xs++[(y,frm ((shp z.2).map (spt z.1)) ((shp z.2).map (spt z.1)))],(aS7.mono fun _ _ h=>PcAt.keep h (s710.t.trans tu2)).app (.cons (PcAt.keep ⟨bt,ep,_,ebt,sbt⟩ tu2) .nil),fun x hx=>?_,by rw[xad,lx];rfl,us++[y],by rw[jaC (Ne.symm SU)];exact s710 _ _ U7,by rw[xad,lu];rfl,by rw[xaj,<- eus];rfl,xcB.mpr ⟨nd,by simp,fun a ha b hb e=>yn (by rw[<- xam.mp hb,<- e];exact ha)⟩⟩;rcases xaz.mp hx with hx | hx
  ·exact ob x hx
  ·rw[xam.mp hx];exact ob_of hz7.2 (by omega) h6 rfl
 ·rintro σ Hh ⟨o4,o5,o6,rs,zs,ps,xs,us,rfl,sx,⟨eR,aR,lz⟩,⟨eS,aS,ob,lx⟩,eU,lu,eus,nd⟩;rw[xaa] at aR lz lx;walk_at "rf";refine⟨by decide,fun p hp=>?_⟩;have j:=Same.new hp (.tup [.ref S,.ref R]);exact q p S R _ xs (sx.trans j) hS0 hR jaf ⟨ps,j _ _ eS,aS.mono fun _ _ h=>h.keep j.t,ob,lx,by rw[<- eus];exact nd⟩ ⟨rs,zs,j _ _ eR,aR.mono fun _ _ h=>RwAt.keep ⟨h.1,h.2.mono (by omega)⟩ j.t,lz⟩
def pcD (x:Int × List Pt):PyData:=.tuple [.int x.1,jnq x.2]
theorem PcAt.rds {x:Int × List Pt} (h:PcAt H r x):Rds K H (.ref r) (pcD x):=by
 obtain⟨t,e,rs,e1,e2⟩:=h;exact .tup (SqT.of e) (.cons (.int _) (.cons (jjA e1 e2) .nil))
theorem jfT {rs:List Addr} {xs:List (Int × List Pt)} (h:All2 (PcAt H) rs xs):RdsAll K H (rs.map V.ref) (xs.map pcD):=by
 induction h with
 | nil=>exact .nil
 | cons h _ ih=>exact .cons h.rds ih
theorem jgW (xs:List (Int × List Pt)):PyData.canLayAll0 (xs.map pcD)=true/\PyData.depthAll (xs.map pcD)<=3:=by
  induction xs with
  | nil=>exact⟨rfl,by decide⟩
  | cons x xs ih =>
    obtain⟨a,b⟩:=ih;obtain⟨l1,l2,_⟩:=jjB x.2;refine⟨?_,?_⟩
    . rw[xay]
      simp [PyData.canLayAll0,a,pcD,PyData.canLay0,l1]
    . rw[xay]
      simp [PyData.depthAll,pcD,PyData.depth];omega
theorem jkm {α β:Type} {R:α->β->Prop}:∀{as:List α},(∀a∈as,∃b,R a b)->∃bs,All2 R as bs
  | [],_=>⟨[],.nil⟩
  | a :: as, h => by
    obtain⟨b,hb⟩:=h a (.head _);obtain⟨bs,hbs⟩:=jkm (as:=as) fun c hc=>h c (.tail _ hc);exact⟨b::bs,.cons hb hbs⟩
variable {Q:VK}
theorem joa {p:Addr} {rs:List Addr} {xs:List (Int × List Pt)} (hM:H M=some (.lst (rs.map V.ref))) (h:All2 (PcAt H) rs xs) (hp:H p=some (.lst [])) (q:Q (.bl (!decide (rs=[]))) H):ji5 K true (.ref M) (.ref p) H Q:=by
 obtain⟨a,b⟩:=jgW xs;refine⟨.list (xs.map pcD),.list [],.lst (SqL.of hM) (jfT h),.lst (SqL.of hp) .nil,?_,by decide,?_⟩
 ·unfold SeqAt.shaped;simp [PyData.canLay0,a,PyData.depth];omega
 have e:PyData.eqv (.list (xs.map pcD)) (.list [])=decide (rs=[]):=by
  cases h with
  | nil=>rfl
  | cons _ _=>rfl
 rw[e];exact q
def jpW:Sp:=fun vs H Q _=>∃x y:Int,vs=[.int x,.int y]/\Q (.int (Int.gcd x y:Nat)) H
theorem jpX (T:Tx K mg t1 t2) (F:At K mg "_law_divisor" jcc ["one","other"] []):jal P w K mg base CX0 1 "_law_divisor" ["one","other"] [] jpW:=by
 refine F.ok jcT (fun vs H Q E h=>?_) (fun f cdv A outer s H vs Q E hr h=>?_)
 ·obtain⟨x,y,rfl,_⟩:=h;rfl
 obtain⟨x,y,rfl,q⟩:=h;have S:=jcT;refine⟨_,(jae (jas (i:=0) S.nd rfl (Or.inl rfl) (jav jc0 rfl T.m_abs boot_abs (jaa (pv 0) jac jag)))
  (jae (jas (i:=1) S.nd rfl (Or.inl rfl) (jav jc0 rfl T.m_abs boot_abs (jaa (pv 1) jac jag)))
  (jae (jdu PassesOwn.never (jar jgF (pv 1) jab (jaz _))
  (jai (joK (i:=0) (j:=1) rfl S.nd rfl rfl (by decide) rfl rfl (jaa (pv 1) (jaa (jaq jb1 (pv 0) (pv 1)) jac jbf) jag) rfl)))
  (jai (jap (pv 0)))))),?_⟩
 walk_at "rf";refine⟨fun n σ H3=>H3=H/\∃(a b:Int),σ=[some (.int a),some (.int b)]/\0<=a/\0<=b/\Int.gcd a b=Int.gcd x y/\n=b.natAbs,⟨_,rfl,_,_,rfl,by split<;>omega,by split<;>omega,?_,rfl⟩,?_⟩
 ·split<;>split<;>simp [Int.neg_gcd,Int.gcd_neg]
 rintro n σ H3 ⟨rfl,a,b,rfl,a0,b0,hg,rfl⟩;walk_at "rf";refine jcA (fun c=>?_) fun c=>?_
 ·have m0:=xbo a (show b≠0 by omega);have m1:=xbc a c;exact⟨fun σ' H'=>σ'=[some (.int b),some (.int (a % b))]/\H'=H3,fun σ' H' ⟨h1,h2⟩=>⟨(a % b).natAbs,by omega,h2,b,a % b,h1,b0,m0,(jnT a b).trans hg,rfl⟩,c,rfl,rfl⟩
 ·have e:b=0:=by omega
  subst e;rw[Int.gcd_zero_right] at hg;rw[show a=((Int.gcd x y:Nat):Int) by omega];exact q
theorem jkn {rs:List Addr} (h:Sps H rs ps) (n:3<=ps.length):∃a b c:Addr,(rs.map V.ref).take 3=[.ref a,.ref b,.ref c]/\Is4 H a (pt ps 0)/\Is4 H b (pt ps 1)/\Is4 H c (pt ps 2):=by
  cases h with
  | nil=>exact absurd n (by decide)
  | cons h1 h => cases h with
    | nil=>exact absurd n (show ¬3<=1 by decide)
    | cons h2 h => cases h with
      | nil=>exact absurd n (show ¬3<=2 by decide)
      | cons h3 h=>exact⟨_,_,_,rfl,h1,h2,h3⟩
variable {v:Tri}
theorem jhQ (h:v.bd n) (k:Nat):Bd n (cmp v k):=by
 unfold cmp;split
 ·exact h.1
 ·split
  ·exact h.2.1
  ·exact h.2.2
def dfr (B A:Pt):Tri:=⟨B.x*A.w-A.x*B.w,B.y*A.w-A.y*B.w,B.z*A.w-A.z*B.w⟩
def nup (ps:List Pt):Tri:=upr (dfr (pt ps 1) (pt ps 0)) (dfr (pt ps 2) (pt ps 0))
def fo4 (ps:List Pt):List Int:=[(nup ps).x*(pt ps 0).w,(nup ps).y*(pt ps 0).w,(nup ps).z*(pt ps 0).w,(nup ps).x*(pt ps 0).x+((nup ps).y*(pt ps 0).y+((nup ps).z*(pt ps 0).z+0))]
theorem jmM (A B C:Pt):(upr (dfr B A) (dfr C A)).x=A.w*jaB 0 A B C/\(upr (dfr B A) (dfr C A)).y=-(A.w*jaB 1 A B C)/\(upr (dfr B A) (dfr C A)).z=A.w*jaB 2 A B C:=by
 have h0:jaB 0 A B C=jbK A.y A.z A.w B.y B.z B.w C.y C.z C.w:=rfl;have h1:jaB 1 A B C=jbK A.x A.z A.w B.x B.z B.w C.x C.z C.w:=rfl;have h2:jaB 2 A B C=jbK A.x A.y A.w B.x B.y B.w C.x C.y C.w:=rfl;rw[h0,h1,h2];unfold upr dfr jbK;simp only;refine⟨?_,?_,?_⟩<;>grind
def Cg (p:Pt):Prop:=p.bd 252/\1<=p.w
theorem jhR {A B:Pt} (ha:Cg A) (hb:Cg B):(dfr B A).bd 505:=by
 obtain⟨⟨a1,a2,a3,a4⟩,_⟩:=ha;obtain⟨⟨b1,b2,b3,b4⟩,_⟩:=hb;exact⟨Bd.sub (n:=504) (Bd.mul b1 a4) (Bd.mul a1 b4),Bd.sub (n:=504) (Bd.mul b2 a4) (Bd.mul a2 b4),Bd.sub (n:=504) (Bd.mul b3 a4) (Bd.mul a3 b4)⟩
theorem jpY {u:Tri} (hu:u.bd 505) (hv:v.bd 505):(upr u v).bd 1011:=by
 obtain⟨a1,a2,a3⟩:=hu;obtain⟨b1,b2,b3⟩:=hv;exact⟨Bd.sub (n:=1010) (Bd.mul a2 b3) (Bd.mul a3 b2),Bd.sub (n:=1010) (Bd.mul a3 b1) (Bd.mul a1 b3),Bd.sub (n:=1010) (Bd.mul a1 b2) (Bd.mul a2 b1)⟩
def LP (ps:List Pt) (x y z v:Int):Prop:=∃g:Int,g≠0/\g*x=(nup ps).x*(pt ps 0).w/\g*y=(nup ps).y*(pt ps 0).w/\g*z=(nup ps).z*(pt ps 0).w/\g*v=(nup ps).x*(pt ps 0).x+((nup ps).y*(pt ps 0).y+((nup ps).z*(pt ps 0).z+0))
def Abc (H:Hp) (ra rb rc:Addr) (ps:List Pt):Prop:=Is4 H ra (pt ps 0)/\Is4 H rb (pt ps 1)/\Is4 H rc (pt ps 2)
theorem Abc.keep {ra rb rc:Addr} (h:Abc H ra rb rc ps) (s:Same H H'):Abc H' ra rb rc ps:=⟨h.1.keep s,h.2.1.keep s,h.2.2.keep s⟩
def pl0 (H:Hp) (l:Addr) (ps:List Pt):L2.St->Hp->Prop:=fun σ H'=>∃ra rb rc:Addr,σ=[some (.ref l),some (.ref ra),some (.ref rb),some (.ref rc),none,none,none,none,none]/\Abc H' ra rb rc ps/\Same H H'
def pl2 (K:PySem.W.Frag) (H:Hp) (l:Addr) (ps:List Pt):L2.St->Hp->Prop:=fun σ H'=>∃ra rb rc g1 g2:Addr,σ=[some (.ref l),some (.ref ra),some (.ref rb),some (.ref rc),some (.ref g1),some (.ref g2),none,none,none]/\Abc H' ra rb rc ps/\Lt3 K H' g1 (dfr (pt ps 1) (pt ps 0))/\Lt3 K H' g2 (dfr (pt ps 2) (pt ps 0))/\Same H H'
def pl3 (H:Hp) (l:Addr) (ps:List Pt):L2.St->Hp->Prop:=fun σ H'=>∃(ra rb rc g3:Addr) (o4 o5:Option V),σ=[some (.ref l),some (.ref ra),some (.ref rb),some (.ref rc),o4,o5,some (.ref g3),none,none]/\Abc H' ra rb rc ps/\H' g3=some (.tup [.int (nup ps).x,.int (nup ps).y,.int (nup ps).z])/\Same H H'
def pl4c (H:Hp) (l:Addr) (ps:List Pt):L2.St->Hp->Prop:=fun σ H'=>∃(ra rb rc g3 fl:Addr) (o4 o5:Option V),σ=[some (.ref l),some (.ref ra),some (.ref rb),some (.ref rc),o4,o5,some (.ref g3),some (.ref fl),none]/\Abc H' ra rb rc ps/\H' g3=some (.tup [.int (nup ps).x,.int (nup ps).y,.int (nup ps).z])/\H fl=none/\H' fl=some (.lst (((fo4 ps).take 3).map V.int))/\Same H H'
def pl5 (H:Hp) (l:Addr) (ps:List Pt):L2.St->Hp->Prop:=fun σ H'=>∃(fl:Addr) (o1 o2 o3 o4 o5 o6:Option V),σ=[some (.ref l),o1,o2,o3,o4,o5,o6,some (.ref fl),none]/\H' fl=some (.lst ((fo4 ps).map V.int))/\Same H H'
def pl6 (H:Hp) (l:Addr) (ps:List Pt):L2.St->Hp->Prop:=fun σ H'=>∃(fl:Addr) (o1 o2 o3 o4 o5 o6:Option V),σ=[some (.ref l),o1,o2,o3,o4,o5,o6,some (.ref fl),some (.int (gl (fo4 ps)))]/\H' fl=some (.lst ((fo4 ps).map V.int))/\Same H H'
def Fst (ps:List Pt) (j:Nat):Prop:=j<3/\(∀i,i<j->(fo4 ps).getD i 0=0)/\(fo4 ps).getD j 0≠0
def pl7 (H:Hp) (l:Addr) (ps:List Pt):L2.St->Hp->Prop:=fun σ H'=>∃(fl:Addr) (g:Int) (o1 o2 o3 o4 o5 o6:Option V),σ=[some (.ref l),o1,o2,o3,o4,o5,o6,some (.ref fl),some (.int g)]/\(∃j,Fst ps j/\((0<=(fo4 ps).getD j 0/\g=gl (fo4 ps))\/((fo4 ps).getD j 0<0/\g=-gl (fo4 ps))))/\H' fl=some (.lst ((fo4 ps).map V.int))/\Same H H'
theorem fil3 {p:Nat->Bool} {js:List Nat} (h:(List.range 3).filter p=j::js):j<3/\p j=true/\∀i,i<j->p i=false:=by
 have e:List.range 3=[0,1,2]:=rfl;rw[e] at h;cases h0:p 0<;>cases h1:p 1<;>cases h2:p 2<;>simp [List.filter,h0,h1,h2] at h<;>obtain⟨rfl,_⟩:=h<;>refine⟨by decide,by assumption,fun i hi=>?_⟩<;>(have:i=0\/i=1:=by omega)<;>rcases this with rfl | rfl<;>first | assumption | omega
theorem jhS {rb ra:Addr} {B A:Pt} {R:V->Hp->Prop} (hb:Is4 H rb B) (ha:Is4 H ra A) (cB:Cg B) (cA:Cg A) (hk:k<3) (q:R (.int (cmp (dfr B A) k)) H):jeZ K (V.ref rb) (V.int (0+(k:Int))) H fun x H1=>jeZ K (V.ref ra) (V.int 3) H1 fun y H2=>∃i,x=V.int i/\∃x,y=V.int x/\Fit i/\Fit x/\jeZ K (V.ref ra) (V.int (0+(k:Int))) H2 fun x_1 H1=>jeZ K (V.ref rb) (V.int 3) H1 fun y H2=>∃i_1,x_1=V.int i_1/\∃x_2,y=V.int x_2/\Fit i_1/\Fit x_2/\R (V.int (i*x-i_1*x_2)) H2:=by
 have e:cmp (dfr B A) k=cmp ⟨B.x,B.y,B.z⟩ k*A.w-cmp ⟨A.x,A.y,A.z⟩ k*B.w:=by
  match k,hk with
  | 0,_=>rfl
  | 1,_=>rfl
  | 2,_=>rfl
 rw[e] at q;have f1:Fit (cmp ⟨B.x,B.y,B.z⟩ k):=(jhQ (v:=⟨B.x,B.y,B.z⟩) ⟨cB.1.1,cB.1.2.1,cB.1.2.2.1⟩ k).fit;have f2:Fit (cmp ⟨A.x,A.y,A.z⟩ k):=(jhQ (v:=⟨A.x,A.y,A.z⟩) ⟨cA.1.1,cA.1.2.1,cA.1.2.2.1⟩ k).fit;exact ixT hb.sq (jpQ ⟨B.x,B.y,B.z⟩ B.w hk) (ixT ha.sq (i:=3) rfl ⟨_,rfl,_,rfl,f1,cA.1.2.2.2.fit,ixT ha.sq (jpQ ⟨A.x,A.y,A.z⟩ A.w hk) (ixT hb.sq (i:=3) rfl ⟨_,rfl,_,rfl,f2,cB.1.2.2.2.fit,q⟩)⟩)
theorem jpZ {z:V} (h:(((fo4 ps).take 3).map V.int)[k]?=some z):z=.int ((fo4 ps).getD k 0)/\k<3:=by
 match k,h with
 | 0,h=>cases h;exact⟨rfl,by decide⟩
 | 1,h=>cases h;exact⟨rfl,by decide⟩
 | 2,h=>cases h;exact⟨rfl,by decide⟩
theorem fo_bd (cA:Cg (pt ps 0)) (bn:(nup ps).bd 1011):Bd 1266 ((fo4 ps).getD 0 0)/\Bd 1266 ((fo4 ps).getD 1 0)/\Bd 1266 ((fo4 ps).getD 2 0)/\Bd 1266 ((fo4 ps).getD 3 0):=by
 obtain⟨n1,n2,n3⟩:=bn;obtain⟨⟨a1,a2,a3,a4⟩,_⟩:=cA;refine⟨Bd.mono (Bd.mul n1 a4),Bd.mono (Bd.mul n2 a4),Bd.mono (Bd.mul n3 a4),?_⟩;exact Bd.add (n:=1265) (Bd.mono (Bd.mul n1 a1)) (Bd.add (n:=1264) (Bd.mono (Bd.mul n2 a2)) (Bd.add (n:=1263) (Bd.mul n3 a3) (by unfold Bd;decide)))
theorem jeM (d:g ∣ x) (h:0<x/\0<g\/x<0/\g<0):0<x / g:=by
 obtain⟨k,rfl⟩:=d;have g0:g≠0:=by omega
 rw[Int.mul_ediv_cancel_left _ g0];rcases h with ⟨h1,h2⟩ | ⟨h1,h2⟩
 ·exact xbq h1 h2
 ·have h3:0<(-g)*k:=by rw[xcb];omega
  exact xbq h3 (by omega)
theorem jko (F:Fst ps j) (hd:∀i∈fo4 ps,g ∣ i) (h:0<(fo4 ps).getD j 0/\0<g\/(fo4 ps).getD j 0<0/\g<0):plb ((fo4 ps).getD 0 0 / g) ((fo4 ps).getD 1 0 / g) ((fo4 ps).getD 2 0 / g)=true:=by
  obtain⟨j3,z,_⟩:=F;unfold plb
  match j,j3,z,h with
  | 0, _, _, h =>
    have p:=jeM (hd _ (.head _)) h;change 0<(fo4 ps).getD 0 0 / g at p;rw[if_pos (by omega),decide_eq_true p]
  | 1, _, z, h =>
    have p:=jeM (hd _ (.tail _ (.head _))) h;change 0<(fo4 ps).getD 1 0 / g at p;rw[z 0 (by decide),Int.zero_ediv,if_neg (by omega),if_pos (by omega),decide_eq_true p]
  | 2, _, z, h =>
    have p:=jeM (hd _ (.tail _ (.tail _ (.head _)))) h;change 0<(fo4 ps).getD 2 0 / g at p;rw[z 0 (by decide),z 1 (by decide),Int.zero_ediv,if_neg (by omega),if_neg (by omega),if_pos (by omega),decide_eq_true p]
theorem jp0 (aw:1<=(pt ps 0).w) (na:¬jbW (pt ps 0) (pt ps 1) (pt ps 2)):pln (fo4 ps)=pln (rgh (pt ps 0) (pt ps 1) (pt ps 2)):=by
 obtain⟨m0,m1,m2⟩:=jmM (pt ps 0) (pt ps 1) (pt ps 2);have e:fo4 ps=[(pt ps 0).w*(pt ps 0).w*jaB 0 (pt ps 0) (pt ps 1) (pt ps 2),(pt ps 0).w*(pt ps 0).w*-jaB 1 (pt ps 0) (pt ps 1) (pt ps 2),(pt ps 0).w*(pt ps 0).w*jaB 2 (pt ps 0) (pt ps 1) (pt ps 2),(pt ps 0).w*(pt ps 0).w*jaB 3 (pt ps 0) (pt ps 1) (pt ps 2)]:=by
  unfold fo4 nup;rw[m0,m1,m2];have h0:jaB 0 (pt ps 0) (pt ps 1) (pt ps 2)=jbK (pt ps 0).y (pt ps 0).z (pt ps 0).w (pt ps 1).y (pt ps 1).z (pt ps 1).w (pt ps 2).y (pt ps 2).z (pt ps 2).w:=rfl;have h1:jaB 1 (pt ps 0) (pt ps 1) (pt ps 2)=jbK (pt ps 0).x (pt ps 0).z (pt ps 0).w (pt ps 1).x (pt ps 1).z (pt ps 1).w (pt ps 2).x (pt ps 2).z (pt ps 2).w:=rfl;have h2:jaB 2 (pt ps 0) (pt ps 1) (pt ps 2)=jbK (pt ps 0).x (pt ps 0).y (pt ps 0).w (pt ps 1).x (pt ps 1).y (pt ps 1).w (pt ps 2).x (pt ps 2).y (pt ps 2).w:=rfl;have h3:jaB 3 (pt ps 0) (pt ps 1) (pt ps 2)=jbK (pt ps 0).x (pt ps 0).y (pt ps 0).z (pt ps 1).x (pt ps 1).y (pt ps 1).z (pt ps 2).x (pt ps 2).y (pt ps 2).z:=rfl;rw[h0,h1,h2,h3];unfold jbK;generalize pt ps 0=A;generalize pt ps 1=B;generalize pt ps 2=C;refine xcc.mpr ⟨by grind,xcc.mpr ⟨by grind,xcc.mpr ⟨by grind,xcc.mpr ⟨by grind,rfl⟩⟩⟩⟩
 rw[e];unfold rgh;refine jnS (Int.mul_ne_zero (by omega) (by omega)) fun z=>na ⟨z.1,by omega,z.2.2⟩
theorem jkp (cA:Cg (pt ps 0)) (na:¬jbW (pt ps 0) (pt ps 1) (pt ps 2)) (F:Fst ps j) (sg:(0<=(fo4 ps).getD j 0/\g=gl (fo4 ps))\/((fo4 ps).getD j 0<0/\g=-gl (fo4 ps))):[((nup ps).x*(pt ps 0).w).fdiv g,((nup ps).y*(pt ps 0).w).fdiv g,((nup ps).z*(pt ps 0).w).fdiv g,((nup ps).x*(pt ps 0).x+((nup ps).y*(pt ps 0).y+((nup ps).z*(pt ps 0).z+0))).fdiv g]=pln (rgh (pt ps 0) (pt ps 1) (pt ps 2)):=by
 rw[<- jp0 cA.2 na];have hG:∀i∈fo4 ps,gl (fo4 ps) ∣ i:=fun i hi=>jaT hi;have hg:∀i∈fo4 ps,g ∣ i:=fun i hi=>by
  rcases sg with ⟨_,rfl⟩ | ⟨_,rfl⟩
  ·exact hG i hi
  ·exact Int.neg_dvd.mpr (hG i hi)
 have mj:(fo4 ps).getD j 0∈fo4 ps:=by
  match j,F.1 with
  | 0,_=>exact .head _
  | 1,_=>exact .tail _ (.head _)
  | 2,_=>exact .tail _ (.tail _ (.head _))
 have G0:0<gl (fo4 ps):=by
  have nn:=jbh (fo4 ps);rcases Int.lt_or_eq_of_le nn with h | h
  ·exact h
  ·have:=hG _ mj;rw[<- h] at this;exact absurd (Int.zero_dvd.mp this) F.2.2
 have nz:=F.2.2;have e:∀i∈fo4 ps,i.fdiv g=i / g:=fun i hi=>xb8 (hg i hi);have pb:=jko F hg (by omega);have a0:((nup ps).x*(pt ps 0).w).fdiv g=(fo4 ps).getD 0 0 / g:=e _ (.head _);have a1:((nup ps).y*(pt ps 0).w).fdiv g=(fo4 ps).getD 1 0 / g:=e _ (.tail _ (.head _));have a2:((nup ps).z*(pt ps 0).w).fdiv g=(fo4 ps).getD 2 0 / g:=e _ (.tail _ (.tail _ (.head _)));have a3:((nup ps).x*(pt ps 0).x+((nup ps).y*(pt ps 0).y+((nup ps).z*(pt ps 0).z+0))).fdiv g=(fo4 ps).getD 3 0 / g:=e _ (.tail _ (.tail _ (.tail _ (.head _))));rw[a0,a1,a2,a3];have ep:pln (fo4 ps)=if plb ((fo4 ps).getD 0 0 / gl (fo4 ps)) ((fo4 ps).getD 1 0 / gl (fo4 ps)) ((fo4 ps).getD 2 0 / gl (fo4 ps))=true then [(fo4 ps).getD 0 0 / gl (fo4 ps),(fo4 ps).getD 1 0 / gl (fo4 ps),(fo4 ps).getD 2 0 / gl (fo4 ps),(fo4 ps).getD 3 0 / gl (fo4 ps)] else [-((fo4 ps).getD 0 0 / gl (fo4 ps)),-((fo4 ps).getD 1 0 / gl (fo4 ps)),-((fo4 ps).getD 2 0 / gl (fo4 ps)),-((fo4 ps).getD 3 0 / gl (fo4 ps))]:=rfl;rw[ep];rcases sg with ⟨h1,rfl⟩ | ⟨h1,rfl⟩
 ·rw[if_pos pb]
 ·rw[xb1,xb1,xb1] at pb;have pn:=jj9 pb;rw[xcm,xcm,xcm] at pn;rw[if_neg (by rw[pn];decide),xb1,xb1,xb1,xb1]
def jp1:Sp:=fun vs H Q _=>∃(l:Addr) (rs:List Addr) (ps:List Pt),vs=[.ref l]/\(H l=some (.lst (rs.map V.ref))\/H l=some (.tup (rs.map V.ref)))/\Sps H rs ps/\3<=ps.length/\(∀p∈ps,Cg p)/\¬jbW (pt ps 0) (pt ps 1) (pt ps 2)/\∀(t:Addr) (H':Hp) (x y z v:Int),Same H H'->H' t=some (.tup [.int x,.int y,.int z,.int v])->LP ps x y z v->[x,y,z,v]=pln (rgh (pt ps 0) (pt ps 1) (pt ps 2))->Q (.ref t) H'
theorem jp2 (T:Tx K mg t1 t2) (F:At K mg "_law_plane" jaH ["corners"] []) (dJ:jal P w K mg base CX0 1 "_law_upright" ["one","other"] [] (jnX K)) (dH:jal P w K mg base CX0 1 "_law_divisor" ["one","other"] [] jpW):jal P w K mg base CX0 2 "_law_plane" ["corners"] [] jp1:=by
  refine F.ok jdB (fun vs H Q E h=>?_) (fun f cdv A outer s H vs Q E hr h=>?_)
  . obtain⟨l,rs,ps,rfl,_⟩:=h
    rfl
  obtain⟨l,rs,ps,rfl,hl,hs,n3,hc,na,q⟩:=h;have S:=jdB;refine⟨_,(ja3 (pl0 H l ps) (jcC (jb2 joZ (pv 0) jdi (jck jab)) (pg_or (joX rfl (jay (jan (i:=1) S.nd rfl (Or.inr rfl)) (jay (jan (i:=2) S.nd rfl (Or.inr rfl)) (jay (jan (i:=3) S.nd rfl (Or.inr rfl)) jbb)))) (jdt rfl (jay (jan (i:=1) S.nd rfl (Or.inr rfl)) (jay (jan (i:=2) S.nd rfl (Or.inr rfl)) (jay (jan (i:=3) S.nd rfl (Or.inr rfl)) jbb))))))
    (jae (jbD (i:=4) rfl S.nd rfl rfl (N':=["k","b","a"]) (ix:=[2,1]) ⟨rfl,rfl,by decide +kernel,by decide +kernel,by decide +kernel,(show ∀y:Str × NameKind,y∈_->y.2=NameKind.free->(jad jaH).names.lookup y.1=some .cell\/(jad jaH).names.lookup y.1=some .free from by decide +kernel),(.cons rfl (.inl rfl) rfl (.cons rfl (.inl rfl) rfl .nil))⟩ (jaU rfl T.m_range (jaa jab jac jam)) (fun _ _ _ _=>jan (i:=0) (show (["k","b","a"]:List Str).Nodup from by decide +kernel) rfl (Or.inl rfl)) (fun _ _ _ _=>jaR) (fun _ _ _ _=>(jaq ja5 (jaq jaw (jaj (jaY (K:=K) rfl) (pv 1) (pv 0)) (jaj (jaY (K:=K) rfl) (pv 2) jab)) (jaq jaw (jaj (jaY (K:=K) rfl) (pv 2) (pv 0)) (jaj (jaY (K:=K) rfl) (pv 1) jab)))))
    (ja3 (pl2 K H l ps) (jbD (i:=5) rfl S.nd rfl rfl (N':=["k","c","a"]) (ix:=[3,1]) ⟨rfl,rfl,by decide +kernel,by decide +kernel,by decide +kernel,(show ∀y:Str × NameKind,y∈_->y.2=NameKind.free->(jad jaH).names.lookup y.1=some .cell\/(jad jaH).names.lookup y.1=some .free from by decide +kernel),(.cons rfl (.inl rfl) rfl (.cons rfl (.inl rfl) rfl .nil))⟩ (jaU rfl T.m_range (jaa jab jac jam)) (fun _ _ _ _=>jan (i:=0) (show (["k","c","a"]:List Str).Nodup from by decide +kernel) rfl (Or.inl rfl)) (fun _ _ _ _=>jaR) (fun _ _ _ _=>(jaq ja5 (jaq jaw (jaj (jaY (K:=K) rfl) (pv 1) (pv 0)) (jaj (jaY (K:=K) rfl) (pv 2) jab)) (jaq jaw (jaj (jaY (K:=K) rfl) (pv 2) (pv 0)) (jaj (jaY (K:=K) rfl) (pv 1) jab)))))
    (ja3 (pl3 H l ps) (jas (i:=6) S.nd rfl (Or.inr rfl) (jah dJ hr.m rfl jat (jaa (pv 4) (jaa (pv 5) jac jag) jag)))
    (ja3 (pl4c H l ps) (jas (i:=7) S.nd rfl (Or.inl rfl) (jbs (jaa (jaq jaw (jaj jao (pv 6) jab) (jaj jao (pv 1) jab)) (jaa (jaq jaw (jaj jao (pv 6) jab) (jaj jao (pv 1) jab)) (jaa (jaq jaw (jaj jao (pv 6) jab) (jaj jao (pv 1) jab)) jac jbf) jbf) jbf)))
    (ja3 (pl5 H l ps) (jb7 (jfm PySem.F.plainAttrs_list PySem.F.slot_list_append PySem.F.type_list_append jbe (pv 7) (jaa (jav (jk1 rfl) rfl T.m_sum boot_sum (jaa (ja4 rfl (N':=["k","upright","a"]) (ix:=[6,1]) ⟨rfl,rfl,by decide +kernel,by decide +kernel,by decide +kernel,(show ∀y:Str × NameKind,y∈_->y.2=NameKind.free->(jad jaH).names.lookup y.1=some .cell\/(jad jaH).names.lookup y.1=some .free from by decide +kernel),(.cons rfl (.inl rfl) rfl (.cons rfl (.inl rfl) rfl .nil))⟩ (jaU rfl T.m_range (jaa jab jac jam)) (fun _ _ _ _=>jan (i:=0) (show (["k","upright","a"]:List Str).Nodup from by decide +kernel) rfl (Or.inl rfl)) (fun _ _ _ _=>jaR) (fun _ _ _ _=>(jaq jaw (jaj (jaY (K:=K) rfl) (pv 1) (pv 0)) (jaj (jaY (K:=K) rfl) (pv 2) (pv 0))))) jac jb4)) jac jaN)))
    (ja3 (pl6 H l ps) (jas (i:=8) S.nd rfl (Or.inr rfl) (jah dH hr.m rfl jat (jaa (jah dH hr.m rfl jat (jaa (jaj ix_list (pv 7) jab) (jaa (jaj ix_list (pv 7) jab) jac jau) jau)) (jaa (jah dH hr.m rfl jat (jaa (jaj ix_list (pv 7) jab) (jaa (jaj ix_list (pv 7) jab) jac jau) jau)) jac jaN) jaN)))
    (ja3 (pl7 H l ps) (jaO (jar jfZ (jaj ix_list (ja4 rfl (N':=["number"]) (ix:=[]) ⟨rfl,rfl,by decide +kernel,by decide +kernel,by decide +kernel,(show ∀y:Str × NameKind,y∈_->y.2=NameKind.free->(jad jaH).names.lookup y.1=some .cell\/(jad jaH).names.lookup y.1=some .free from by decide +kernel),.nil⟩ (jbo (jb2 sl_list (pv 7) jdi (jck jab))) (fun _ _ _ _=>jan (i:=0) (show (["number"]:List Str).Nodup from by decide +kernel) rfl (Or.inl rfl)) (fun _ _ _ _=>(jfn (jar jem (pv 0) jab (jaz _)))) (fun _ _ _ _=>(pv 0))) jab) jab (jaz _))
    (jai (jas (i:=8) S.nd rfl (Or.inr rfl) (jaq ja5 jab (pv 8))))
    jaA)
    (jai (jap (jaK jcm rfl T.m_tuple boot_tuple (jaa (ja4 rfl (N':=["number","by"]) (ix:=[8]) ⟨rfl,rfl,by decide +kernel,by decide +kernel,by decide +kernel,(show ∀y:Str × NameKind,y∈_->y.2=NameKind.free->(jad jaH).names.lookup y.1=some .cell\/(jad jaH).names.lookup y.1=some .free from by decide +kernel),(.cons rfl (.inl rfl) rfl .nil)⟩ (jbo (pv 7)) (fun _ _ _ _=>jan (i:=0) (show (["number","by"]:List Str).Nodup from by decide +kernel) rfl (Or.inl rfl)) (fun _ _ _ _=>jaR) (fun _ _ _ _=>(jaq jk3 (pv 0) (pv 1)))) jac jb4)))))))))))),?_⟩
  have cA:=hc _ (jbk (i:=0) (by omega));have cB:=hc _ (jbk (i:=1) (by omega));have cC:=hc _ (jbk (i:=2) (by omega));have lrs:=hs.len;walk_at "rf";refine⟨?_,?_⟩
  . obtain⟨ra,rb,rc,er,h1,h2,h3⟩:=jkn hs n3
    have ec:jeO (rs.map V.ref) none (some 3)=[.ref ra,.ref rb,.ref rc]:=by
      have z:jeO (rs.map V.ref) none (some 3)=(rs.map V.ref).take 3:=jef (f:=3);rw[z,er]
    have fin:∀{J:Hp},Same H J->pl0 H l ps [some (.ref l),some (.ref ra),some (.ref rb),some (.ref rc),none,none,none,none,none] J:=fun j=>⟨ra,rb,rc,rfl,⟨h1.keep j,h2.keep j,h3.keep j⟩,j⟩;rcases hl with hl | hl
    . refine .inl (.inl ⟨l,_,rfl,SqL.of hl,fun p hp=>?_⟩)
      rw[ec];exact .inl ⟨p,_,rfl,SqL.of jaf,rfl,_,_,rfl,_,_,rfl,_,_,rfl,rfl,fin (Same.new hp _)⟩
    . by_cases k3:3 < ps.length
      . refine .inl (.inr ⟨l,_,rfl,SqT.of hl,?_,fun p hp=>?_⟩)
        . have z:HT.sIx (rs.map V.ref).length (rs.map V.ref).length (some 3)=min 3 (rs.map V.ref).length:=HT.sIx_nat _ _ 3
          rw[z,xaa];omega
        . rw[ec]
          exact .inr ⟨p,_,rfl,SqT.of jaf,rfl,_,_,rfl,_,_,rfl,_,_,rfl,rfl,fin (Same.new hp _)⟩
      . have z:HT.sIx (rs.map V.ref).length (rs.map V.ref).length (some 3)=min 3 (rs.map V.ref).length:=HT.sIx_nat _ _ 3
        have e3:rs.map V.ref=[.ref ra,.ref rb,.ref rc]:=by rw[<- er,xbd (by rw[xaa];omega)]
        refine .inr ⟨l,_,rfl,SqT.of hl,⟨rfl,?_⟩,?_⟩
        . rw[z,xaa]
          omega
        . rw[e3] at hl
          exact .inr ⟨l,_,rfl,SqT.of hl,rfl,_,_,rfl,_,_,rfl,_,_,rfl,rfl,fin (Same.refl _)⟩
  rintro σ0 H0 ⟨ra,rb,rc,rfl,hA,s0⟩;walk_at "rf";refine⟨by decide,by decide,fun g1 hg1=>jh8 (n:=3) (fun k=>.int (cmp (dfr (pt ps 1) (pt ps 0)) k)) (by decide) hg1 (fun k H3 R hk s3 hR=>?_) fun H1 s1 e1=>⟨by decide,by decide,fun g2 hg2=>jh8 (n:=3) (fun k=>.int (cmp (dfr (pt ps 2) (pt ps 0)) k)) (by decide) hg2 (fun k H3 R hk s3 hR=>?_) fun H2 s2 e2=>?_,?_⟩⟩
  . walk_at "rf"
    exact jhS (hA.2.1.keep s3) (hA.1.keep s3) cB cA hk (hR _ (Same.refl _))
  . walk_at "rf"
    exact jhS (hA.2.2.keep (s1.trans s3)) (hA.1.keep (s1.trans s3)) cC cA hk (hR _ (Same.refl _))
  . exact⟨ra,rb,rc,g1,g2,rfl,hA.keep (s1.trans s2),.inl (SqL.of (s2 _ _ e1)),.inl (SqL.of e2),s0.trans (s1.trans s2)⟩
  rintro σ2 H2 ⟨ra,rb,rc,g1,g2,rfl,hA,l1,l2,s2⟩;walk_at "rf";refine⟨⟨g1,g2,_,_,rfl,l1,l2,jfM (jhR cA cB),jfM (jhR cA cC),fun g3 H3 n3' s3 e3=>⟨ra,rb,rc,g3,_,_,rfl,hA.keep s3,e3,s2.trans s3⟩⟩,?_⟩;have bn:(nup ps).bd 1011:=jpY (jhR cA cB) (jhR cA cC);have fx:Fit (nup ps).x:=bn.1.fit;have fy:Fit (nup ps).y:=bn.2.1.fit;have fz:Fit (nup ps).z:=bn.2.2.fit;have fw:Fit (pt ps 0).w:=cA.1.2.2.2.fit;rintro σ3 H3 ⟨ra,rb,rc,g3,o4,o5,rfl,hA,e3,s3⟩;walk_at "rf";refine⟨?_,?_⟩
  . have kn:=SqT.of (K:=K) e3
    have ka:=hA.1.sq (K:=K);refine ixT kn (i:=0) rfl (ixT ka (i:=3) rfl ⟨_,rfl,_,rfl,fx,fw,ixT kn (i:=1) rfl (ixT ka (i:=3) rfl ⟨_,rfl,_,rfl,fy,fw,ixT kn (i:=2) rfl (ixT ka (i:=3) rfl ⟨_,rfl,_,rfl,fz,fw,by decide,fun p hp=>?_⟩)⟩)⟩);have j:=Same.new hp (.lst [.int ((nup ps).x*(pt ps 0).w),.int ((nup ps).y*(pt ps 0).w),.int ((nup ps).z*(pt ps 0).w)]);exact⟨ra,rb,rc,g3,p,o4,o5,rfl,hA.keep j,j _ _ e3,s3.noneN hp,jaf,s3.trans j⟩
  rintro σ4 H4 ⟨ra,rb,rc,g3,fl,o4,o5,rfl,hA,e3,nf,ef,s4⟩;walk_at "rf";refine⟨.inl ⟨_,SqL.of ef⟩,by decide,by decide,fun acc hacc=>jh8 (n:=3) (fun k=>.int (cmp (nup ps) k*cmp ⟨(pt ps 0).x,(pt ps 0).y,(pt ps 0).z⟩ k)) (by decide) hacc (fun k H5 R hk s5 hR=>?_) fun H5 s5 e5=>?_,?_⟩
  . have fn:Fit (cmp (nup ps) k):=(jhQ bn k).fit
    have fa:Fit (cmp ⟨(pt ps 0).x,(pt ps 0).y,(pt ps 0).z⟩ k):=(jhQ (v:=⟨(pt ps 0).x,(pt ps 0).y,(pt ps 0).z⟩) ⟨cA.1.1,cA.1.2.1,cA.1.2.2.1⟩ k).fit;walk_at "rf";exact ixT (SqT.of (s5 _ _ e3)) (cmp3 (nup ps) hk) (ixT (hA.1.keep s5).sq (jpQ ⟨(pt ps 0).x,(pt ps 0).y,(pt ps 0).z⟩ (pt ps 0).w hk) ⟨_,rfl,_,rfl,fn,fa,hR _ (Same.refl _)⟩)
  . refine⟨[_,_,_],SqL.of e5,fl,_,_,rfl,rfl,s5 _ _ ef,jaF (show 3 < 1000 by decide),?_⟩
    refine⟨fl,_,_,_,_,_,_,rfl,jaf,Same.keepN (s4.trans s5) nf _⟩
  rintro σ5 H5 ⟨fl,o1,o2,o3,o4,o5,o6,rfl,ef,s5⟩;walk_at "rf";have kf:=SqL.of (K:=K) ef;refine⟨ixL kf (i:=0) rfl (ixL kf (i:=1) rfl ⟨_,_,rfl,ixL kf (i:=2) rfl (ixL kf (i:=3) rfl ⟨_,_,rfl,_,_,rfl,?_⟩)⟩),?_⟩
  . refine⟨fl,o1,o2,o3,o4,o5,o6,?_,ef,s5⟩
    rw[gcd4];rfl
  rintro σ6 H6 ⟨fl,o1,o2,o3,o4,o5,o6,rfl,ef,s6⟩;walk_at "rf";obtain⟨k0,hk0,nk0⟩:∃k,k<3/\(fo4 ps).getD k 0≠0:=by
    obtain⟨m0,m1,m2⟩:=jmM (pt ps 0) (pt ps 1) (pt ps 2);have aw:=cA.2;have nw:(pt ps 0).w≠0:=by omega
    refine xal fun z=>na ?_;have z0:(nup ps).x*(pt ps 0).w=0:=xal fun h=>z ⟨0,by decide,h⟩;have z1:(nup ps).y*(pt ps 0).w=0:=xal fun h=>z ⟨1,by decide,h⟩;have z2:(nup ps).z*(pt ps 0).w=0:=xal fun h=>z ⟨2,by decide,h⟩;have y0:=(xaI.mp z0).resolve_right nw;have y1:=(xaI.mp z1).resolve_right nw;have y2:=(xaI.mp z2).resolve_right nw;change (upr _ _).x=0 at y0;change (upr _ _).y=0 at y1;change (upr _ _).z=0 at y2;rw[m0] at y0;rw[m1] at y1;rw[m2] at y2;exact⟨(xaI.mp y0).resolve_left nw,(xaI.mp (show (pt ps 0).w*jaB 1 (pt ps 0) (pt ps 1) (pt ps 2)=0 by omega)).resolve_left nw,(xaI.mp y2).resolve_left nw⟩
  have kf6:=SqL.of (K:=K) ef;refine⟨?_,?_⟩
  . refine⟨fl,_,rfl,kf6,fun p hp=>?_⟩
    have ec:jeO ((fo4 ps).map V.int) none (some 3)=((fo4 ps).take 3).map V.int:=(jef (f:=3)).trans rfl;rw[ec];have j:=Same.new hp (.lst (((fo4 ps).take 3).map V.int));have ep:upd H6 p (.lst (((fo4 ps).take 3).map V.int)) p=some (.lst (((fo4 ps).take 3).map V.int)):=jaf;have ef':=j _ _ ef;have s7:=s6.trans j;generalize upd H6 p (.lst (((fo4 ps).take 3).map V.int))=H7 at ep ef' s7 |-
    refine⟨p,rfl,⟨_,SqL.of ep⟩,fun acc hacc=>jm9 (zs:=((fo4 ps).take 3).map V.int) (fun k=>.int ((fo4 ps).getD k 0)) (fun k=>!decide ((fo4 ps).getD k 0=0)) (by show 3<1000;decide) hacc (SqL.of ep) (fun k z H8 R hz s8 hR=>?_) (fun k z H8 R hz hc' s8 hR=>?_) fun H8 s8 e8=>?_⟩
    . obtain⟨rfl,_⟩:=jpZ hz
      walk_at "rf";exact hR _ (Same.refl _)
    . obtain⟨rfl,_⟩:=jpZ hz
      walk_at "rf";exact hR _ (Same.refl _)
    . have mem:k0∈(List.range (((fo4 ps).take 3).map V.int).length).filter fun k=>!decide ((fo4 ps).getD k 0=0):=xbw.mpr ⟨xaY.mpr hk0,by rw[decide_eq_false nk0]; rfl⟩
      have ff':∀j js,(List.range (((fo4 ps).take 3).map V.int).length).filter (fun k=>!decide ((fo4 ps).getD k 0=0))=j::js->j<3/\(!decide ((fo4 ps).getD j 0=0))=true/\∀i,i<j->(!decide ((fo4 ps).getD i 0=0))=false:=fun j js h=>fil3 (p:=fun k=>!decide ((fo4 ps).getD k 0=0)) h;generalize (List.range (((fo4 ps).take 3).map V.int).length).filter (fun k=>!decide ((fo4 ps).getD k 0=0))=js at mem e8 ff';cases js with
      | nil=>cases mem
      | cons j0 js =>
        have ff:=ff' j0 js rfl;have F1:Fst ps j0:=⟨ff.1,(fun i hi=>by simpa using ff.2.2 i hi),by simpa using ff.2.1⟩;refine ixL (SqL.of e8) (i:=0) (v:=.int ((fo4 ps).getD j0 0)) (jaI (j:=0) rfl) ⟨_,rfl,jcA (fun c=>?_) fun c=>?_⟩
        . exact⟨fl,_,o1,o2,o3,o4,o5,o6,rfl,⟨j0,F1,.inr ⟨c,by omega⟩⟩,s8 _ _ ef',s7.trans s8⟩
        . exact⟨fl,_,o1,o2,o3,o4,o5,o6,rfl,⟨j0,F1,.inl ⟨by omega,rfl⟩⟩,s8 _ _ ef',s7.trans s8⟩
  rintro σ7 H7 ⟨fl,g,o1,o2,o3,o4,o5,o6,rfl,⟨j1,F1,sg⟩,ef,s7⟩;have eg:g=gl (fo4 ps)\/g=-gl (fo4 ps):=sg.elim (fun h=>.inl h.2) fun h=>.inr h.2;walk_at "rf";obtain⟨bf0,bf1,bf2,bf3⟩:=fo_bd cA bn;have hG:∀i∈fo4 ps,g ∣ i:=fun i hi=>by
    rcases eg with rfl | rfl
    . exact jaT hi
    . exact Int.neg_dvd.mpr (jaT hi)
  have mk:(fo4 ps).getD k0 0∈fo4 ps:=by
    match k0,hk0 with
    | 0,_=>exact .head _
    | 1,_=>exact .tail _ (.head _)
    | 2,_=>exact .tail _ (.tail _ (.head _))
  have bk:Bd 1266 ((fo4 ps).getD k0 0):=by
    match k0,hk0 with
    | 0,_=>exact bf0
    | 1,_=>exact bf1
    | 2,_=>exact bf2
  have g0:g≠0:=fun e=>nk0 (by have:=hG _ mk;rw[e] at this;exact Int.zero_dvd.mp this);have fg:Fit g:=Bd.fit (n:=1266) (xbb (Nat.le_of_dvd (Int.natAbs_pos.mpr nk0) (xcf.mpr (hG _ mk))) bk);have qd:∀{n:Nat} {i:Int},i∈fo4 ps->Bd n i->Bd n (i.fdiv g):=fun {n i} hi hb=>by
    rw[xb8 (hG i hi)];exact Bd.div hb
  refine⟨⟨_,SqL.of ef⟩,fun acc hacc=>compL (fun v=>match v with | .int i=>.int (i.fdiv g) | v=>v) (by show 4<1000;decide) hacc (SqL.of ef) (fun z H8 R hz s8 hR=>?_) fun H8 s8 e8=>?_⟩
  . obtain⟨i,hi,rfl⟩:=xax.mp hz
    walk_at "rf";exact⟨g0,fg,hR _ (Same.refl _)⟩
  . refine⟨_,SqL.of e8,fun t ht=>?_⟩
    have j:=Same.new ht (.tup (((fo4 ps).map V.int).map fun v=>match v with | .int i=>.int (i.fdiv g) | v=>v));have mu:∀{i:Int},i∈fo4 ps->g*i.fdiv g=i:=fun {i} hi=>by
      rw[xb8 (hG i hi)];exact xa9 (hG i hi)
    exact q t _ _ _ _ _ (s7.trans (s8.trans j)) jaf ⟨g,g0,mu (.head _),mu (.tail _ (.head _)),mu (.tail _ (.tail _ (.head _))),mu (.tail _ (.tail _ (.tail _ (.head _))))⟩ (jkp cA na F1 sg)
theorem cg_of (h:Cn p):Cg p:=⟨⟨Bd.mono h.1.1,Bd.mono h.1.2.1,Bd.mono h.1.2.2,Bd.mono h.2.1⟩,h.2.2⟩
def spHg:Sp:=fun vs H Q _=>∃(r e:Addr) (a b c d:Int) (p:Pt),vs=[.ref r,.ref e]/\H r=some (.tup [.int a,.int b,.int c,.int d])/\(Fit a/\Fit b/\Fit c/\Fit d)/\Is4 H e p/\Q (.int (hgt a b c d p)) H
theorem ok_hg (T:Tx K mg t1 t2) (F:At K mg "_law_height" jcs ["plane","spot"] []):jal P w K mg base CX0 1 "_law_height" ["plane","spot"] [] spHg:=by
 refine F.ok jdf (fun vs H Q E h=>?_) (fun f cdv A outer s H vs Q E hr h=>?_)
 ·obtain⟨_,_,_,_,_,_,_,rfl,_⟩:=h;rfl
 obtain⟨r,e,a,b,c,d,p,rfl,er,⟨fa,fb,fc,fd⟩,he,q⟩:=h;have S:=jdf;refine⟨_,(jae (jas (i:=2) S.nd rfl (Or.inl rfl) (jaq jbq (jaq jaw (jaj jao (pv 0) jab) (jaj jao (pv 1) jab)) (jaq jaw (jaj jao (pv 0) jab) (jaj jao (pv 1) jab))))
  (jai (jap (jaq ja5 (jaq jbq (pv 2) (jaq jaw (jaj jao (pv 0) jab) (jaj jao (pv 1) jab))) (jaq jaw (jaj jao (pv 0) jab) (jaj jao (pv 1) jab)))))),?_⟩
 have k1:SqT K H r [.int a,.int b,.int c,.int d]:=SqT.of er;have k2:=he.sq (K:=K);have f1:Fit p.x:=(Bd.mono he.2.1:Bd 650 p.x).fit;have f2:Fit p.y:=(Bd.mono he.2.2.1:Bd 650 p.y).fit;have f3:Fit p.z:=(Bd.mono he.2.2.2.1:Bd 650 p.z).fit;have f4:Fit p.w:=(Bd.mono he.2.2.2.2:Bd 650 p.w).fit;walk_at "rf";walk_at "gf";exact q
theorem Sta.lst {b:Addr} {xs:List Addr} (h:Sta H L) (e:H b=some (.lst (xs.map V.ref))):b≠L:=fun z=>by
 obtain⟨_,_,h1,_⟩:=h;rw[z,h1] at e;cases xs with
 | nil=>cases e
 | cons _ _=>cases e
def spWh:Sp:=fun vs H Q _=>∃n:Int,vs=[.int n]/\Q (.bl true) H
theorem ok_wh (T:Tx K mg t1 t2) (F:At K mg "_law_whole" jcK ["found"] []):jal P w K mg base CX0 1 "_law_whole" ["found"] [] spWh:=by
 refine F.ok jdC (fun vs H Q E h=>?_) (fun f cdv A outer s H vs Q E hr h=>?_)
 ·obtain⟨a,rfl,_⟩:=h;rfl
 obtain⟨n,rfl,q⟩:=h;have S:=jdC;refine⟨_,(jai (jap (jek (jav ja7 rfl T.m_isinstance boot_isinstance (jaa (pv 0) (jaa (jcB (v:=.ty "int") rfl T.m_int boot_int rfl) jac jag) jag)) (jeV (joF (jav ja7 rfl T.m_isinstance boot_isinstance (jaa (pv 0) (jaa (jcB (v:=.ty "bool") rfl T.m_bool boot_bool rfl) jac jag) jag))))))),?_⟩;walk_at "rd";exact⟨_,.int n,_,rfl,iteT ⟨_,.int n,_,rfl,q⟩⟩
def jp3:Sp:=fun vs H Q _=>∃(r:Addr) (p:Pt),vs=[.ref r]/\Is4 H r p/\∀H',Same H H'->Q (.bl true) H'
theorem ok_is (T:Tx K mg t1 t2) (F:At K mg "_law_is_spot" jbj ["found"] []) (dM:jal P w K mg base CX0 1 "_law_whole" ["found"] [] spWh):jal P w K mg base CX0 2 "_law_is_spot" ["found"] [] jp3:=by
 refine F.ok jcU (fun vs H Q E h=>?_) (fun f cdv A outer s H vs Q E hr h=>?_)
 ·obtain⟨r,p,rfl,_⟩:=h;rfl
 obtain⟨r,p,rfl,hp,q⟩:=h;have S:=jcU;refine⟨_,(jai (jap (jek (jav ja7 rfl T.m_isinstance boot_isinstance (jaa (pv 0) (jaa (jcB (v:=.ty "tuple") rfl T.m_tuple boot_tuple rfl) jac jag) jag)) (jek (jdh jea (jav jaJ rfl T.m_len PySem.boot_len (jaa (pv 0) jac jag)) jab (jaz _)) (jeV (jav (ja2 rfl) rfl T.m_all boot_all (jaa (ja4 rfl (N':=["one"]) (ix:=[]) ⟨rfl,rfl,by decide +kernel,by decide +kernel,by decide +kernel,(show ∀y:Str × NameKind,y∈_->y.2=NameKind.free->(jad jbj).names.lookup y.1=some .cell\/(jad jbj).names.lookup y.1=some .free from by decide +kernel),.nil⟩ (jcu (pv 0)) (fun _ _ _ _=>jan (i:=0) (show (["one"]:List Str).Nodup from by decide +kernel) rfl (Or.inl rfl)) (fun _ _ _ _=>jaR) (fun _ _ _ _=>(jah dM hr.m rfl jat (jaa (pv 0) jac jag)))) jac jb4))))))),?_⟩;have k4:SqT K H r [.int p.x,.int p.y,.int p.z,.int p.w]:=hp.sq;walk_at "rf";refine⟨_,.tup hp.1,_,rfl,?_⟩;rw[if_pos (by decide)];refine⟨_,.inr k4,?_⟩;rw[if_pos (show (((([V.int p.x,V.int p.y,V.int p.z,V.int p.w]:List V).length:Nat):Int))=4 from rfl)];refine⟨⟨_,k4⟩,fun acc hacc=>?_⟩;refine jja (fun _=>.bl true) (by show 4<1000;decide) hacc k4 (fun z J R hz s3 hR=>?_) fun J j2 e2=>?_
 ·obtain⟨i,rfl⟩:∃i,z=V.int i:=by
   simp only[xap,xbY,or_false] at hz;rcases hz with rfl | rfl | rfl | rfl<;>exact⟨_,rfl⟩
  walk_at "rf";exact⟨i,rfl,hR _ (Same.refl _)⟩
 ·exact⟨[true,true,true,true],SqL.of e2,q _ j2⟩
theorem job {rs:List Addr} (h:Sps H rs ps) (m:r∈rs):∃p,Is4 H r p:=by
  induction h with
  | nil=>cases m
  | cons h _ ih =>
    rcases xap.mp m with rfl | m
    . exact⟨_,h⟩
    . exact ih m
theorem jfU (xs:List V):(xs.map fun _=>V.bl true)=(xs.map fun _=>true).map V.bl:=by rw[xaO];rfl
theorem jfV (xs:List V):(xs.map fun _=>true).all id=true:=by
 induction xs with
 | nil=>rfl
 | cons _ _ ih=>exact ih
def spIP:Sp:=fun vs H Q _=>∃(r:Addr) (x:Int × List Pt),vs=[.ref r]/\PcAt H r x/\x.2.length<=100/\∀H',Same H H'->Q (.bl true) H'
theorem ok_ip (T:Tx K mg t1 t2) (F:At K mg "_law_is_piece" ja8 ["found"] []) (dM:jal P w K mg base CX0 1 "_law_whole" ["found"] [] spWh) (df:jal P w K mg base CX0 2 "_law_is_spot" ["found"] [] jp3):jal P w K mg base CX0 3 "_law_is_piece" ["found"] [] spIP:=by
 refine F.ok jcy (fun vs H Q E h=>?_) (fun f cdv A outer s H vs Q E hr h=>?_)
 ·obtain⟨r,p,rfl,_⟩:=h;rfl
 obtain⟨r,⟨k,ps⟩,rfl,⟨b,e1,rs,e2,e3⟩,l100,q⟩:=h;have S:=jcy;refine⟨_,(jae (jaO (PW.pt (jds (jb0 (jbB (jav ja7 rfl T.m_isinstance boot_isinstance (jaa (pv 0) (jaa (jcB (v:=.ty "tuple") rfl T.m_tuple boot_tuple rfl) jac jag) jag)))) (jds (jar jem (jav jaJ rfl T.m_len PySem.boot_len (jaa (pv 0) jac jag)) jab (jaz _)) (jc6 (jb0 (jbB (jah dM hr.m rfl jat (jaa (jaj jao (pv 0) jab) jac jau))))))))
  (jai (jap jb6))
  jaA)
  (jai (jap (jek (jav ja7 rfl T.m_isinstance boot_isinstance (jaa (jaj jao (pv 0) jab) (jaa (jcB (v:=.ty "tuple") rfl T.m_tuple boot_tuple rfl) jac jag) jau)) (jeV (jav (ja2 rfl) rfl T.m_all boot_all (jaa (ja4 rfl (N':=["one"]) (ix:=[]) ⟨rfl,rfl,by decide +kernel,by decide +kernel,by decide +kernel,(show ∀y:Str × NameKind,y∈_->y.2=NameKind.free->(jad ja8).names.lookup y.1=some .cell\/(jad ja8).names.lookup y.1=some .free from by decide +kernel),.nil⟩ (jcu (jaj jao (pv 0) jab)) (fun _ _ _ _=>jan (i:=0) (show (["one"]:List Str).Nodup from by decide +kernel) rfl (Or.inl rfl)) (fun _ _ _ _=>jaR) (fun _ _ _ _=>(jah df hr.m rfl jat (jaa (pv 0) jac jag)))) jac jb4))))))),?_⟩
 have k1:SqT K H r [.int k,.ref b]:=SqT.of e1;walk_at "rf";have l100':ps.length<=100:=l100;have lrs:=e3.len;refine⟨_,.tup e1,_,rfl,?_⟩;rw[if_neg (by decide)];refine⟨_,.inr k1,?_⟩;rw[if_pos (show (((([V.int k,V.ref b]:List V).length:Nat):Int))=2 from rfl)];refine ixT k1 (i:=0) rfl ⟨k,rfl,_,rfl,?_⟩;rw[if_neg (by decide)];refine ixT k1 (i:=1) rfl ⟨_,.tup e2,_,rfl,?_⟩;rw[if_pos (by decide)];refine ixT k1 (i:=1) rfl ⟨b,rfl,⟨_,SqT.of e2⟩,fun acc hacc=>?_⟩;refine jja (fun _=>.bl true) (by rw[xaa];show rs.length<1000;have:rs.length=ps.length:=lrs;omega) hacc (SqT.of e2) (fun z J R hz s3 hR=>?_) fun J j2 e4=>?_
 ·obtain⟨r',hr',rfl⟩:=xax.mp hz;obtain⟨p,hp⟩:=job e3 hr';walk_at "rf";exact⟨r',p,rfl,hp.keep s3,fun H' s'=>hR _ s'⟩
 ·refine⟨(rs.map V.ref).map fun _=>true,SqL.of (e4.trans (congrArg (fun l=>some (HO.lst l)) (jfU _))),?_⟩;rw[jfV];exact q _ j2
def jp4 (n:Nat):Sp:=fun vs H Q _=>∃(v:V) (T:Tr) (c:Nat),vs=[v]/\TrAt H v T/\T.ht<n/\T.Good c/\c<900/\∀H',Same H H'->Q (.bl true) H'
theorem joc (T:Tx K mg t1 t2) (F:At K mg "_law_is_tree" jaX ["found"] []) (df:jal P w K mg base CX0 2 "_law_is_spot" ["found"] [] jp3) (dj:jal P w K mg base CX0 3 "_law_is_piece" ["found"] [] spIP) (dB:jal P w K mg base CX0 (7+n) "_law_is_tree" ["found"] [] (jp4 n)):jal P w K mg base CX0 (7+n+1) "_law_is_tree" ["found"] [] (jp4 (n+1)):=by
 refine F.ok jbY (fun vs H Q E h=>?_) (fun f cdv Ar outer s H vs Q E hr h=>?_)
 ·obtain⟨v,T,c,rfl,_⟩:=h;rfl
 obtain⟨v,Tt,c,rfl,hT,hn,hG,c9,q⟩:=h;have S:=jbY;refine⟨_,(jae (jaO (jar jdY (pv 0) jbr (jaz _))
  (jai (jap jb6))
  jaA)
  (jae (jaO (PW.pt (jds (jb0 (jbB (jav ja7 rfl T.m_isinstance boot_isinstance (jaa (pv 0) (jaa (jcB (v:=.ty "tuple") rfl T.m_tuple boot_tuple rfl) jac jag) jag)))) (jds (jar jem (jav jaJ rfl T.m_len PySem.boot_len (jaa (pv 0) jac jag)) jab (jaz _)) (jc6 (jb0 (jbB (jah df (hr.mono (by omega)) rfl jat (jaa (jaj jao (pv 0) jab) jac jau))))))))
  (jai (jap jb6))
  jaA)
  (jae (jaO (PW.pt (jds (jb0 (jbB (jav ja7 rfl T.m_isinstance boot_isinstance (jaa (jaj jao (pv 0) jab) (jaa (jcB (v:=.ty "tuple") rfl T.m_tuple boot_tuple rfl) jac jag) jau)))) (jc6 (jb0 (jbB (jav (ja2 rfl) rfl T.m_all boot_all (jaa (ja4 rfl (N':=["one"]) (ix:=[]) ⟨rfl,rfl,by decide +kernel,by decide +kernel,by decide +kernel,(show ∀y:Str × NameKind,y∈_->y.2=NameKind.free->(jad jaX).names.lookup y.1=some .cell\/(jad jaX).names.lookup y.1=some .free from by decide +kernel),.nil⟩ (jcu (jaj jao (pv 0) jab)) (fun _ _ _ _=>jan (i:=0) (show (["one"]:List Str).Nodup from by decide +kernel) rfl (Or.inl rfl)) (fun _ _ _ _=>jaR) (fun _ _ _ _=>(jah dj (hr.mono (by omega)) rfl jat (jaa (pv 0) jac jag)))) jac jb4)))))))
  (jai (jap jb6))
  jaA)
  (jai (jap (jek (jah dB (hr.mono (by omega)) rfl jat (jaa (jaj jao (pv 0) jab) jac jau)) (jeV (jah dB (hr.mono (by omega)) rfl jat (jaa (jaj jao (pv 0) jab) jac jau))))))))),?_⟩
 walk_at "rf";refine jcA (fun e=>?_) fun e=>?_
 ·exact q H (Same.refl _)
 cases hT with
 | nil=>exact absurd rfl e
 | @nd t g h rs vb va pl here B A h1 h2 h3 h4 h5 h6 =>
 obtain⟨g1,⟨g2,g3⟩,g4,g5⟩:=hG;have lh:=h4.len;have hh:max B.ht A.ht+1<n+1:=hn;have k1:SqT K H t [.ref g,.ref h,vb,va]:=SqT.of h1;refine⟨_,.tup h1,_,rfl,?_⟩;rw[if_neg (by decide)];refine⟨t,rfl,_,.inr k1,?_⟩;rw[if_pos (show (((([V.ref g,V.ref h,vb,va]:List V).length:Nat):Int))=4 from rfl)];refine ixT k1 (i:=0) rfl ⟨g,pl,rfl,h2,fun H1 s1=>⟨_,rfl,?_⟩⟩;rw[if_neg (by decide)];refine ixT (SqT.of (s1 _ _ h1)) (i:=1) rfl ⟨_,.tup (s1 _ _ h3),_,rfl,?_⟩;rw[if_neg (by decide)];refine ixT (SqT.of (s1 _ _ h1)) (i:=1) rfl ⟨h,rfl,⟨_,SqT.of (s1 _ _ h3)⟩,fun acc hacc=>?_⟩;refine jja (fun _=>.bl true) (by rw[xaa];omega) hacc (SqT.of (s1 _ _ h3)) (fun z J R hz s3 hR=>?_) fun J j2 e4=>?_
 ·obtain⟨r',hr',rfl⟩:=xax.mp hz;obtain⟨i,hi⟩:=xbG hr';obtain⟨x,hx,hp⟩:=h4.getA hi;obtain⟨Z,vs,_,_,l16,r16⟩:=g2 x (xav hx);have lx:=r16.len;rw[xaa] at lx;walk_at "rf";exact⟨r',x,rfl,hp.keep (s1.trans s3).t,by omega,fun H' s'=>hR _ s'⟩
 ·refine⟨(rs.map V.ref).map fun _=>true,SqL.of (e4.trans (congrArg (fun l=>some (HO.lst l)) (jfU _))),?_⟩;rw[jfV,if_neg (by decide)];have s2:=s1.trans j2;refine ixT (SqT.of (s2 _ _ h1)) (i:=2) rfl ⟨vb,B,c,rfl,h5.keep s2.t,by omega,g4,c9,fun H5 s5=>⟨_,rfl,?_⟩⟩;rw[if_pos rfl];exact ixT (SqT.of ((s2.trans s5) _ _ h1)) (i:=3) rfl ⟨va,A,c,rfl,h6.keep (s2.trans s5).t,by omega,g5,c9,fun H6 s6=>q H6 (s2.trans (s5.trans s6))⟩
theorem jmN (T:Tx K mg t1 t2) (F:At K mg "_law_is_tree" jaX ["found"] []) (df:jal P w K mg base CX0 2 "_law_is_spot" ["found"] [] jp3) (dj:jal P w K mg base CX0 3 "_law_is_piece" ["found"] [] spIP):∀n:Nat,jal P w K mg base CX0 (7+n) "_law_is_tree" ["found"] [] (jp4 n)
 | 0=>F.ok (k:=6) jbY (fun vs H Q E ⟨_,_,_,_,_,z,_⟩=>absurd z (xaR _)) fun f cdv Ar outer s H vs Q E hr ⟨_,_,_,_,_,z,_⟩=>absurd z (xaR _)
 | n+1=>joc T F df dj (jmN T F df dj n)
theorem ok_it (T:Tx K mg t1 t2) (F:At K mg "_law_is_tree" jaX ["found"] []) (df:jal P w K mg base CX0 2 "_law_is_spot" ["found"] [] jp3) (dj:jal P w K mg base CX0 3 "_law_is_piece" ["found"] [] spIP):jal P w K mg base CX0 16 "_law_is_tree" ["found"] [] (jp4 9):=by
 exact jmN T F df dj 9
def trD:Tr->PyData
 | .nil=>.none
 | .nd p h b a=>.tuple [.tuple [.int p.x,.int p.y,.int p.z,.int p.w],.tuple (h.map pcD),trD b,trD a]
theorem TrAt.rds {v:V} {T:Tr} (h:TrAt H v T):Rds K H v (trD T):=by
 induction h with
 | nil=>exact .non
 | nd h1 h2 h3 h4 _ _ i5 i6=>exact .tup (SqT.of h1) (.cons (.tup (SqT.of h2.1) (RdsAll.ints [_,_,_,_])) (.cons (.tup (SqT.of h3) (jfT h4)) (.cons i5 (.cons i6 .nil))))
theorem jgX:∀T:Tr,PyData.canLay0 (trD T)=true/\PyData.depth (trD T)<=5+T.ht
  | .nil=>⟨rfl,by show PyData.depth .none<=5;decide⟩
  | .nd p h b a => by
    obtain⟨b1,b2⟩:=jgX b;obtain⟨a1,a2⟩:=jgX a;obtain⟨h1,h2⟩:=jgW h;have hh:(Tr.nd p h b a).ht=max b.ht a.ht+1:=rfl;refine⟨?_,?_⟩
    . simp [trD,PyData.canLay0,PyData.canLayAll0,h1,b1,a1]
    . rw[hh]
      simp [trD,PyData.depth,PyData.depthAll];omega
theorem jod {g:Nat} (hf:f<=xs.length) (hg:g<=xs.length):jeO xs (some (f:Int)) (some (g:Int))=(xs.drop f).take (g-f):=by
 unfold jeO;rw[HT.sIx_nat,HT.sIx_nat,xb4 hf,xb4 hg]
theorem jp5 {cs:List Int} {m:Nat} (ex:x=((f+m:Nat):Int)) (h:f+m<=cs.length):jeO (cs.map V.int) (some (f:Int)) (some x)=((cs.drop f).take m).map V.int:=by
 rw[ex,jod (by rw[xaa];omega) (by rw[xaa];exact h),xb7,xb6,show f+m-f=m by omega]
theorem SomeAt.kb {m:Nat} {xs:List (Int × List Pt)} (h:SomeAt m H S xs) (SL:S≠L) (b:Sta H L) (s:SameB L H H'):SomeAt m H' S xs:=by
 obtain⟨rs,h1,h2,h3⟩:=h;exact⟨rs,s _ _ SL h1,h2.mono fun _ _ h=>h.keep (b.t s),h3⟩
def plP (ps:List Pt):Pt:=match pln (rgh (pt ps 0) (pt ps 1) (pt ps 2)) with
 | [a,b,c,d]=>⟨a,b,c,d⟩
 | _=>⟨0,0,0,0⟩
theorem jmO {b:Int} (h:pln (rgh (pt ps 0) (pt ps 1) (pt ps 2))=[a,b,c,d]):plP ps=⟨a,b,c,d⟩:=by
 unfold plP;rw[h]
abbrev Dsc:=Int × Sht × List Tri
def dPc (x:Dsc):Int × List Pt:=(x.1,rgs x.2.1 x.2.2)
structure DOk (x:Dsc):Prop where
 z:SZ x.2.1
 f:VF x.2.2
 l6:x.2.2.length<=6
 c:∀p∈rgs x.2.1 x.2.2,Cn p
theorem jkq:∀xs:List (Int × List Pt),(∀x∈xs,OB x.2)->∃ds:List Dsc,xs=ds.map dPc/\∀d∈ds,DOk d
  | [],_=>⟨[],rfl,fun _ z=>nomatch z⟩
  | (k, ps) :: xs, h => by
    obtain⟨ds,e,hd⟩:=jkq xs fun x hx=>h x (.tail _ hx);obtain⟨⟨Z,ws,h1,h2,h3,h4⟩,h5⟩:=h _ (.head _);change ps=rgs Z ws at h4;subst h4;refine⟨(k,Z,ws)::ds,by rw[xay,<- e];rfl,fun d hx=>?_⟩;rcases xap.mp hx with rfl | hx
    . exact⟨h1,h2,h3,h5⟩
    . exact hd d hx
theorem DOk.rr (x:Dsc):RR (x.2.2.map (spt x.2.1)) (rgs x.2.1 x.2.2):=jeI _ _
theorem DOk.n3 {x:Dsc} (h:DOk x):3<=(rgs x.2.1 x.2.2).length:=by
 have:=(DOk.rr x).len;rw[xaa] at this;have:=h.f.rg.n3;omega
theorem DOk.pl {x:Dsc} (h:DOk x):pln (rgh (pt (rgs x.2.1 x.2.2) 0) (pt (rgs x.2.1 x.2.2) 1) (pt (rgs x.2.1 x.2.2) 2))=[(plP (rgs x.2.1 x.2.2)).x,(plP (rgs x.2.1 x.2.2)).y,(plP (rgs x.2.1 x.2.2)).z,(plP (rgs x.2.1 x.2.2)).w]/\PlG (plP (rgs x.2.1 x.2.2)):=by
 have n3:=h.n3;obtain⟨pl,ep,gp⟩:=jn6 (h.c _ (jbk (i:=0) (by omega))) (h.c _ (jbk (i:=1) (by omega))) (h.c _ (jbk (i:=2) (by omega)));rw[jmO ep];exact⟨ep,gp⟩
theorem DOk.na {x:Dsc} (h:DOk x):¬jbW (pt (rgs x.2.1 x.2.2) 0) (pt (rgs x.2.1 x.2.2) 1) (pt (rgs x.2.1 x.2.2) 2):=jnP h.z.hw h.z.nz h.f.rg (by have:=h.l6;omega) (DOk.rr x)
noncomputable def grT (T:Tr) (x:Dsc):Tr:=grw x.2.1 x.1 (plP (rgs x.2.1 x.2.2)) T x.2.2
noncomputable def grs (ys:List Dsc):Tr:=ys.foldl grT .nil
theorem jdI (ys:List Dsc) (y:Dsc):grs (ys++[y])=grT (grs ys) y:=by
 unfold grs;rw[xcC];rfl
theorem jff:∀(n:Nat) (ys:List Dsc),ys.length=n->(∀y∈ys,DOk y)->n<=9->(grs ys).Good n/\(grs ys).ht<=n
  | 0, ys, e, _, _ => by
    rw[xa5.mp e];exact⟨trivial,xae _⟩
  | n + 1, ys, e, h, n9 => by
    obtain⟨zs,z,rfl⟩:∃zs z,ys=zs++[z]:=by
      rcases List.eq_nil_or_concat ys with rfl | ⟨zs,z,e⟩
      . cases e
      . exact⟨zs,z,by rw[e,List.concat_eq_append]⟩
    have lz:zs.length=n:=by simpa using e
    obtain⟨g1,g2⟩:=jff n zs lz (fun y hy=>h y (xaK _ hy)) (by omega);have hz:=h z (xak _ (.head _));have:=hz.l6;rw[jdI];exact⟨jfQ hz.z hz.pl.2 g1 hz.f (by omega),xaE (jkg ..) (by omega)⟩
def jkr:Sp:=fun vs H Q _=>∃(v:V) (r:Addr) (T:Tr) (c:Nat) (x:Dsc),vs=[v,.ref r]/\TrAt H v T/\T.ht<9/\T.Good c/\c<900/\PcAt H r (dPc x)/\DOk x/\∀(t:Addr) (H':Hp),Same H H'->TrAt H' (.ref t) (grT T x)->Q (.ref t) H'
theorem jp6 (T:Tx K mg t1 t2) (F:At K mg "grown_by" jdR ["tree","piece"] []) (Dq:jal P w K mg base CX0 6 "plane_of" ["board"] [] jgm) (dD:jal P w K mg base CX0 16 "grown_with" ["tree","number","board","own"] [] (jn4 9)):jal P w K mg base CX0 17 "grown_by" ["tree","piece"] [] jkr:=by
 refine F.ok jeF (fun vs H Q E h=>?_) (fun f cdv Ar outer s H vs Q E hr h=>?_)
 ·obtain⟨_,_,_,_,_,rfl,_⟩:=h;rfl
 obtain⟨v,r,Tt,c,x,rfl,hT,h9,hG,c9,⟨b,e1,rs,e2,e3⟩,hx,q⟩:=h;have S:=jeF;refine⟨_,(jai (jap (jah dD hr.m rfl jat (jaa (pv 0) (jaa (jaj jao (pv 1) jab) (jaa (jaj jao (pv 1) jab) (jaa (jah Dq hr.m rfl jat (jaa (jaj jao (pv 1) jab) jac jau)) jac jaN) jau) jau) jag)))),?_⟩;have k1:SqT K H r [.int x.1,.ref b]:=SqT.of e1;have n3:=hx.n3;have l6:=hx.l6;obtain⟨ep,gp⟩:=hx.pl;walk_at "rf";refine ixT k1 (i:=0) rfl (ixT k1 (i:=1) rfl (ixT k1 (i:=1) rfl ⟨b,rs,rgs x.2.1 x.2.2,rfl,e2,e3,n3,hx.na,fun g H1 s1 eg=>?_⟩));rw[ep] at eg;exact⟨v,x.1,b,g,Tt,_,x.2.1,x.2.2,c,rfl,hT.keep s1.t,h9,hG,c9,⟨eg,gp.sm⟩,gp,hx.z,hx.f,by omega,⟨rs,s1 _ _ e2,e3.keep s1.t⟩,fun t H' s' t'=>q t H' (s1.trans s') t'⟩
theorem joe {rs:List Addr} {xs:List (Int × List Pt)} (h:All2 (PcAt H) rs xs):∃ps:List (Key × V),rs.length=ps.length/\(∀(i:Nat) (r:Addr) (q:Key × V),rs[i]?=some r->ps[i]?=some q->H r=some (.tup [kV q.1,q.2]))/\ps.map (·.1)=xs.map (fun x=>(Sum.inl x.1:Key))/\∀x∈xs,∃b,BoAt H b x.2/\((Sum.inl x.1:Key),V.ref b)∈ps:=by
  induction h with
  | nil=>exact⟨[],rfl,(fun _ _ _ z=>nomatch z),rfl,fun _ z=>nomatch z⟩
  | @cons r x rs xs h _ ih =>
    obtain⟨b,e,bo⟩:=h;obtain⟨ps,i1,i2,i3,i4⟩:=ih;refine⟨(.inl x.1,.ref b)::ps,by rw[xaw,xaw,i1],fun i r' q h1 h2=>?_,by rw[xay,xay,i3],fun y hy=>?_⟩
    . cases i with
      | zero=>cases h1;cases h2;exact e
      | succ i=>exact i2 i r' q h1 h2
    . rcases xap.mp hy with rfl | hy
      . exact⟨b,bo,.head _⟩
      . obtain⟨b',h1,h2⟩:=i4 y hy
        exact⟨b',h1,.tail _ h2⟩
theorem jof {ps:List (Key × V)} {k:Key} (h:k∉ps.map (·.1)):jeb ps k=none:=by
  induction ps with
  | nil=>rfl
  | cons p ps ih =>
    rw[xay,xap,not_or] at h;rw[jbm (fun z=>h.1 z.symm)];exact ih h.2
theorem jmP:∀(ps acc:List (Key × V)),((acc++ps).map (·.1)).Nodup->ps.foldl (fun a q=>jgC a q.1 q.2) acc=acc++ps
  | [],acc,_=>(xbx acc).symm
  | p :: ps, acc, h => by
    have hn:p.1∉acc.map (·.1):=fun m=>by
      rw[xaj,xcB] at h;exact h.2.2 _ m _ (.head _) rfl
    rw[xck,jhh p.2 (jof hn),jmP ps (acc++[(p.1,p.2)]) (by rw[xbu];exact h),xbu];rfl
theorem jp7 {ps:List (Key × V)} (h:(ps.map (·.1)).Nodup):ofK ps=ps:=jmP ps [] h
theorem jhT {ps:List (Key × V)} {k:Key} {v:V} (h:(ps.map (·.1)).Nodup) (m:(k,v)∈ps):jeb ps k=some v:=by
  induction ps with
  | nil=>cases m
  | cons p ps ih =>
    rw[xay,xbn] at h;rcases xap.mp m with rfl | m
    . exact jbv rfl
    . rw[jbm (fun z=>h.1 (by rw[z]; exact xby m))]
      exact ih h.2 m
theorem jks {xs:List Int} (h:xs.Nodup):(xs.map fun x=>(Sum.inl x:Key)).Nodup:=by
  induction xs with
  | nil=>exact List.nodup_nil
  | cons x xs ih =>
    rw[xbn] at h;rw[xay,xbn];refine⟨fun m=>?_,ih h.2⟩;obtain⟨y,hy,e⟩:=xax.mp m;exact h.1 (by rw[<- Sum.inl.inj e];exact hy)
def jp8:Sp:=fun vs H Q _=>∃(S:Addr) (v:V) (rs:List Addr) (xs ys:List Dsc),vs=[.ref S,v]/\H S=some (.lst (rs.map V.ref))/\All2 (PcAt H) rs (xs.map dPc)/\(∀x∈xs,DOk x)/\(xs.map (·.1)).Nodup/\ys.length<=8/\(∀y∈ys,y∈xs)/\((v=.non/\ys=xs)\/∃R,v=.ref R/\H R=some (.lst (ys.map fun y=>V.int y.1)))/\∀(t:V) (H':Hp),Same H H'->TrAt H' t (grs ys)->Q t H'
theorem jmQ {ds:List V} (T:Tx K mg t1 t2) (F:At K mg "tree_of" jbx ["some","row"] ds) (di:jal P w K mg base CX0 17 "grown_by" ["tree","piece"] [] jkr):jal P w K mg base CX0 18 "tree_of" ["some","row"] ds jp8:=by
 refine F.ok je8 (fun vs H Q E h=>?_) (fun f cdv Ar outer s H vs Q E hr h=>?_)
 ·obtain⟨_,_,_,_,_,rfl,_⟩:=h;rfl
 obtain⟨S0,v,rs,xs,ys,rfl,eS,aS,ok,nd,l8,sub,hv,q⟩:=h;have S:=je8;refine⟨_,(jae (jas (i:=2) S.nd rfl (Or.inl rfl) (jaK (jet rfl) rfl T.m_dict boot_dict (jaa (pv 0) jac jag)))
  (jae (jas (i:=3) S.nd rfl (Or.inl rfl) (jfh (jar jdY (pv 1) jbr (jaz _)) (jaK (jeS rfl) rfl T.m_list boot_list (jaa (pv 2) jac jag)) (pv 1)))
  (jae (jas (i:=4) S.nd rfl (Or.inl rfl) jbr)
  (jae (jbE PassesOwn.never rfl (jbo (pv 3)) (jan (i:=5) S.nd rfl (Or.inl rfl))
  (jai (jas (i:=4) S.nd rfl (Or.inl rfl) (jah di hr.m rfl jat (jaa (pv 4) (jaa (jaQ (jaa (pv 5) (jaa (jaj jfv (pv 2) (pv 5)) jac jau) jag)) jac jaM) jag)))))
  (jai (jap (pv 4))))))),?_⟩
 walk_at "rf";obtain⟨ps,lp,hp,km,hps⟩:=joe aS;have kn:(ps.map (·.1)).Nodup:=by
  rw[km,xaO];have:=jks nd;rw[xaO] at this;exact this
 have eo:=jp7 kn;have em:ps.map (fun q=>kV q.1)=xs.map fun y=>V.int y.1:=by
  have z:ps.map (fun q=>kV q.1)=(ps.map (·.1)).map kV:=by rw[xaO];rfl
  rw[z,km,xaO,xaO];rfl
 refine⟨rs,eS,ps,lp,hp,fun d hd=>?_⟩;have jd:=Same.new hd (.dK (ofK ps));have ed0:upd H d (.dK (ofK ps)) d=some (.dK ps):=by rw[jaf,eo]
 generalize upd H d (.dK (ofK ps))=H1 at jd ed0 |-
 unfold L2.tIf;walk_at "rf";rcases hv with ⟨rfl,rfl⟩ | ⟨R,rfl,eR⟩
 ·refine jcA (fun _=>?_) fun z=>absurd rfl z;refine⟨ps,ed0,fun N hN=>?_⟩;have jN:=Same.new hN (.lst (ps.map fun q=>kV q.1));have eN:upd H1 N (.lst (ps.map fun q=>kV q.1)) N=some (.lst (ys.map fun y=>V.int y.1)):=by rw[jaf,em]
  have ed:=jN _ _ ed0;have sJ:=jd.trans jN;generalize upd H1 N (.lst (ps.map fun q=>kV q.1))=J at eN ed sJ |-
  refine⟨⟨_,SqL.of eN⟩,jbL (K:=K) (a:=N) (xs:=ys.map fun y=>V.int y.1) (fun i σ Hh=>∃(o5:Option V) (t:V),σ=[some (.ref S0),some .non,some (.ref d),some (.ref N),some t,o5]/\Same J Hh/\TrAt Hh t (grs (ys.take i))) ⟨_,_,rfl,Same.refl _,.nil⟩ (fun i σ Hh _ ⟨_,_,_,sx,_⟩=>sx.seq (SqL.of eN)) ?_ ?_⟩
  ·rintro i w σ Hh hi ⟨o5,t,rfl,sx,tT⟩;rw[xaf] at hi;obtain⟨x,hx,rfl⟩:=xaD.mp hi;have xm:=sub x (xav hx);have il:=(xag.mp hx).1;obtain⟨b,bo,hget⟩:=hps (dPc x) (xby xm);have hget:=jhT kn hget;obtain⟨g1,g2⟩:=jff i (ys.take i) (by rw[xau];omega) (fun y hy=>ok y (sub y (xbi hy))) (by omega);walk_at "rf";refine⟨d,ps,.inl x.1,.ref b,rfl,rfl,sx _ _ ed,hget,by decide,fun p hp=>?_⟩;have j:=Same.new hp (.tup [.int x.1,.ref b]);refine⟨t,p,grs (ys.take i),i,x,rfl,tT.keep j.t,by omega,g1,by omega,⟨b,jaf,(bo.keep sJ.t).keep (sx.trans j).t⟩,ok x xm,fun t' H' s' tT'=>⟨sx.trans (j.trans s'),?_⟩⟩;rw[xaZ,hx];rw[show grs (List.take i ys++(some x).toList)=grT (grs (ys.take i)) x from jdI _ _];exact tT'
  ·rintro σ Hh ⟨o5,t,rfl,sx,tT⟩;rw[xaa,xa3] at tT;walk_at "rf";exact q t Hh (sJ.trans sx) tT
 ·refine jcA (fun z=>nomatch z) fun _=>?_;have eN:=jd _ _ eR;have ed:=ed0;have sJ:=jd
  revert eN ed sJ
  generalize H1=J;generalize R=N;intro eN ed sJ;refine⟨N,rfl,⟨_,SqL.of eN⟩,jbL (K:=K) (a:=N) (xs:=ys.map fun y=>V.int y.1) (fun i σ Hh=>∃(o5:Option V) (t:V),σ=[some (.ref S0),some (.ref N),some (.ref d),some (.ref N),some t,o5]/\Same J Hh/\TrAt Hh t (grs (ys.take i))) ⟨_,_,rfl,Same.refl _,.nil⟩ (fun i σ Hh _ ⟨_,_,_,sx,_⟩=>sx.seq (SqL.of eN)) ?_ ?_⟩
  ·rintro i w σ Hh hi ⟨o5,t,rfl,sx,tT⟩;rw[xaf] at hi;obtain⟨x,hx,rfl⟩:=xaD.mp hi;have xm:=sub x (xav hx);have il:=(xag.mp hx).1;obtain⟨b,bo,hget⟩:=hps (dPc x) (xby xm);have hget:=jhT kn hget;obtain⟨g1,g2⟩:=jff i (ys.take i) (by rw[xau];omega) (fun y hy=>ok y (sub y (xbi hy))) (by omega);walk_at "rf";refine⟨d,ps,.inl x.1,.ref b,rfl,rfl,sx _ _ ed,hget,by decide,fun p hp=>?_⟩;have j:=Same.new hp (.tup [.int x.1,.ref b]);refine⟨t,p,grs (ys.take i),i,x,rfl,tT.keep j.t,by omega,g1,by omega,⟨b,jaf,(bo.keep sJ.t).keep (sx.trans j).t⟩,ok x xm,fun t' H' s' tT'=>⟨sx.trans (j.trans s'),?_⟩⟩;rw[xaZ,hx];rw[show grs (List.take i ys++(some x).toList)=grT (grs (ys.take i)) x from jdI _ _];exact tT'
  ·rintro σ Hh ⟨o5,t,rfl,sx,tT⟩;rw[xaa,xa3] at tT;walk_at "rf";exact q t Hh (sJ.trans sx) tT
theorem ok_to (T:Tx K mg t1 t2) (F:At K mg "tree_of" jbx ["some","row"] []) (di:jal P w K mg base CX0 17 "grown_by" ["tree","piece"] [] jkr):jal P w K mg base CX0 18 "tree_of" ["some","row"] [] jp8:=by
 exact jmQ T F di
theorem jp9 (T:Tx K mg t1 t2) (F:At K mg "tree_of" jbx ["some","row"] [.non]) (di:jal P w K mg base CX0 17 "grown_by" ["tree","piece"] [] jkr):jal P w K mg base CX0 18 "tree_of" ["some","row"] [.non] jp8:=by
 exact jmQ T F di
theorem jkt (hk:k<=vs.length) (hi:i<vs.length):tr (vs.drop k++vs.take k) i=if k+i<vs.length then tr vs (k+i) else tr vs (k+i-vs.length):=by
 unfold tr;rw[xac];have ld:(vs.drop k).length=vs.length-k:=xaC;by_cases c:k+i<vs.length
 ·rw[if_pos c,xaH (by omega),xb5,xac]
 ·rw[if_neg c,xat (by omega),ld,xcv,if_pos (by omega),xac,show i-(vs.length-k)=k+i-vs.length by omega]
theorem jog (R:Rng vs) (hk:k<=vs.length):Rng (vs.drop k++vs.take k):=by
 have ln:(vs.drop k++vs.take k).length=vs.length:=by rw[xad,xaC,xau];omega
 refine⟨by rw[ln];exact R.n3,fun i j l ij jl ll=>?_,fun v hv=>?_⟩
 ·rw[ln] at ll;rw[jkt hk (by omega),jkt hk (by omega),jkt hk ll];by_cases c1:k+i<vs.length
  ·rw[if_pos c1];by_cases c2:k+j<vs.length
   ·rw[if_pos c2];by_cases c3:k+l<vs.length
    ·rw[if_pos c3];exact R.tp _ _ _ (by omega) (by omega) c3
    ·rw[if_neg c3,<- jcW];exact R.tp _ _ _ (by omega) (by omega) c2
   ·rw[if_neg c2,if_neg (by omega),jcW];exact R.tp _ _ _ (by omega) (by omega) c1
  ·rw[if_neg c1,if_neg (by omega),if_neg (by omega)];exact R.tp _ _ _ (by omega) (by omega) (by omega)
 ·rcases xaz.mp hv with h | h
  ·exact R.hz v (List.mem_of_mem_drop h)
  ·exact R.hz v (xbi h)
def sw3 (v:Tri):Tri:=⟨v.y,v.x,v.z⟩
def Sht.sw (Z:Sht):Sht:=⟨Z.s,Z.w,Z.d,Z.c⟩
theorem jqa (Z:Sht) (v:Tri):spt Z.sw (sw3 v)=spt Z v:=by
 have e1:rX Z.sw (sw3 v)=rX Z v:=by
  show Z.s.x*v.z+Z.w*(v.y*Z.d.x+v.x*Z.c.x)=Z.s.x*v.z+Z.w*(v.x*Z.c.x+v.y*Z.d.x);rw[Int.add_comm (v.y*Z.d.x)]
 have e2:rY Z.sw (sw3 v)=rY Z v:=by
  show Z.s.y*v.z+Z.w*(v.y*Z.d.y+v.x*Z.c.y)=Z.s.y*v.z+Z.w*(v.x*Z.c.y+v.y*Z.d.y);rw[Int.add_comm (v.y*Z.d.y)]
 have e3:rZ Z.sw (sw3 v)=rZ Z v:=by
  show Z.s.z*v.z+Z.w*(v.y*Z.d.z+v.x*Z.c.z)=Z.s.z*v.z+Z.w*(v.x*Z.c.z+v.y*Z.d.z);rw[Int.add_comm (v.y*Z.d.z)]
 have e4:rW Z.sw (sw3 v)=rW Z v:=rfl;have e5:rG Z.sw (sw3 v)=rG Z v:=by unfold rG;rw[e1,e2,e3,e4]
 unfold spt;rw[e1,e2,e3,e4,e5]
theorem sw_nz (h:Z.u.nz):Z.sw.u.nz:=fun z=>h (by
 obtain⟨z1,z2,z3⟩:=z;have e1:Z.sw.u.x=-Z.u.x:=by show Z.d.y*Z.c.z-Z.d.z*Z.c.y=-(Z.c.y*Z.d.z-Z.c.z*Z.d.y);grind
 have e2:Z.sw.u.y=-Z.u.y:=by show Z.d.z*Z.c.x-Z.d.x*Z.c.z=-(Z.c.z*Z.d.x-Z.c.x*Z.d.z);grind
 have e3:Z.sw.u.z=-Z.u.z:=by show Z.d.x*Z.c.y-Z.d.y*Z.c.x=-(Z.c.x*Z.d.y-Z.c.y*Z.d.x);grind
 omega)
theorem dt_sw (a b c:Tri):dt (sw3 c) (sw3 b) (sw3 a)=dt a b c:=by
 unfold dt jbK sw3;grind
theorem jku (h:i<vs.length):tr vs.reverse i=tr vs (vs.length-1-i):=by
 unfold tr;rw[xac,xac,xbR h]
theorem joh (R:Rng vs):Rng (vs.reverse.map sw3):=by
 have ln:(vs.reverse.map sw3).length=vs.length:=by rw[xaa,xaQ]
 refine⟨by rw[ln];exact R.n3,fun i j l ij jl ll=>?_,fun v hv=>?_⟩
 ·rw[ln] at ll;rw[jfe (by rw[xaQ];omega),jfe (by rw[xaQ];omega),jfe (by rw[xaQ];omega),jku (by omega),jku (by omega),jku ll,dt_sw];exact R.tp _ _ _ (by omega) (by omega) (by omega)
 ·obtain⟨u,hu,rfl⟩:=xax.mp hv;exact R.hz u (List.mem_reverse.mp hu)
theorem joi {m:List Pt} (hw:1<=Z.w) (nz:Z.u.nz) (R:Rng vs) (h:RR (vs.map (spt Z)) m):∃(Z':Sht) (us:List Tri),1<=Z'.w/\Z'.u.nz/\Rng us/\us.length=vs.length/\m=us.map (spt Z'):=by
  generalize el:vs.map (spt Z)=l at h;induction h with
  | refl=>exact⟨Z,vs,hw,nz,R,rfl,el.symm⟩
  | @rot m k h ih =>
    obtain⟨Z',us,h1,h2,h3,h4,rfl⟩:=ih;by_cases c:k<=us.length
    . exact⟨Z',us.drop k++us.take k,h1,h2,jog h3 c,by rw[xad,xaC,xau];omega,by rw[xaj,xb6,xb7]⟩
    . refine⟨Z',us,h1,h2,h3,h4,?_⟩
      rw[List.drop_eq_nil_of_le (by rw[xaa];omega),xbd (by rw[xaa];omega),List.nil_append]
  | rev h ih =>
    obtain⟨Z',us,h1,h2,h3,h4,rfl⟩:=ih;refine⟨Z'.sw,us.reverse.map sw3,h1,sw_nz h2,joh h3,by rw[xaa,xaQ];exact h4,?_⟩;rw[xaO,<- List.map_reverse];exact xbZ fun v _=>(jqa Z' v).symm
theorem jqb {m:List Pt} (hw:1<=Z.w) (nz:Z.u.nz) (R:Rng vs) (n8:vs.length<=8) (h:RR (vs.map (spt Z)) m):Brd m:=by
 obtain⟨Z',us,h1,h2,h3,h4,rfl⟩:=joi hw nz R h;exact jhN h1 h2 h3 (by omega)
def T2 (n:Nat) (H:Hp) (r:Addr) (t b:Int):Prop:=H r=some (.tup [.int t,.int b])/\Bd n t/\Bd n b/\1<=b
theorem T2.keep {t b:Int} (h:T2 n H r t b) (s:Same H H'):T2 n H' r t b:=⟨s _ _ h.1,h.2⟩
def jkv:Sp:=fun vs H Q _=>∃L:Addr,vs=[.ref L]/\Sta H L/\∀(H':Hp) (d:Int),SameB L H H'->Sta H' L->2<=d->d<=4->Q (.int d) H'
theorem jlT (T:Tx K mg t1 t2) (F:At K mg "_law_count" jcL ["state"] []) (de:jal P w K mg base CX0 1 "_law_next" ["state","many"] [] jox):jal P w K mg base CX0 2 "_law_count" ["state"] [] jkv:=by
 refine F.ok jdD (fun vs H Q E h=>?_) (fun f cdv A outer s H vs Q E hr h=>?_)
 ·obtain⟨L,rfl,_⟩:=h;rfl
 obtain⟨L,rfl,b0,q⟩:=h;have S:=jdD;refine⟨_,(jai (jap (jaj ix_list (jbs (jaa jab (jaa jab (jaa jab (jaa jab jac jam) jam) jam) jam)) (jah de hr.m rfl jat (jaa (pv 0) (jaa jab jac jam) jag))))),?_⟩;walk_at "rf";refine⟨by decide,fun p hp=>?_⟩;refine jeP hp fun H4 j ep=>?_;refine⟨L,4,rfl,b0.keep j,by decide,by decide,fun H5 d s5 b5 d0 d3=>?_⟩;have e5:=s5 _ _ (b0.ne hp) ep;have s05:=j.b.trans s5;have:d=0\/d=1\/d=2\/d=3:=by omega
 rcases this with rfl | rfl | rfl | rfl<;>exact ixL (SqL.of e5) rfl (q _ _ s05 b5 (by decide) (by decide))
theorem joj {b:Int} (h:¬(a=0/\b=0/\c=0)):∃x y z w g:Int,pln [a,b,c,d]=[x,y,z,w]/\g≠0/\g*x=a/\g*y=b/\g*z=c/\g*w=d:=by
 have gp:=gl4 (d:=d) h;have mu:∀{i:Int},i∈[a,b,c,d]->gl [a,b,c,d]*(i / gl [a,b,c,d])=i:=fun hi=>xa9 (jaT hi);have ma:=mu (i:=a) (by simp);have mb:=mu (i:=b) (by simp);have mc:=mu (i:=c) (by simp);have md:=mu (i:=d) (by simp);have e:pln [a,b,c,d]=if plb (a / gl [a,b,c,d]) (b / gl [a,b,c,d]) (c / gl [a,b,c,d])=true then [a / gl [a,b,c,d],b / gl [a,b,c,d],c / gl [a,b,c,d],d / gl [a,b,c,d]] else [-(a / gl [a,b,c,d]),-(b / gl [a,b,c,d]),-(c / gl [a,b,c,d]),-(d / gl [a,b,c,d])]:=rfl;rw[e];generalize gl [a,b,c,d]=g at *
 by_cases k:plb (a / g) (b / g) (c / g)=true
 ·rw[if_pos k];exact⟨_,_,_,_,g,rfl,by omega,ma,mb,mc,md⟩
 ·rw[if_neg k];exact⟨_,_,_,_,-g,rfl,by omega,by rw[xcn];exact ma,by rw[xcn];exact mb,by rw[xcn];exact mc,by rw[xcn];exact md⟩
theorem jok {z w b:Int} (e1:g*x=a) (e2:g*y=b) (e3:g*z=c) (e4:g*w=d) (p:Pt):hgt a b c d p=g*hgt x y z w p:=by
 rw[<- e1,<- e2,<- e3,<- e4];unfold hgt;grind
theorem zero_mul (g0:g≠0) (e:y=g*x):x=0↔y=0:=⟨fun h=>by rw[e,h,xbj],fun h=>(xaI.mp (show g*x=0 by omega)).resolve_left g0⟩
def jdX (n:Nat):Sp:=fun vs H Q _=>∃(v:V) (T:Tr) (c:Nat),vs=[v]/\TrAt H v T/\T.ht<n/\T.Good c/\c<900/\T.pcs.length<=800/\∀(l:Addr) (H':Hp) (rs:List Addr),H l=none->Same H H'->H' l=some (.lst (rs.map V.ref))->All2 (PcAt H') rs T.pcs->Q (.ref l) H'
theorem jgx {l1 l2:Addr} {rs1 rs2:List Addr} (e1:H l1=some (.lst (rs1.map V.ref))) (e2:H l2=some (.lst (rs2.map V.ref))) (h:rs1.length+rs2.length<1000) (q:∀(p:Addr) (H':Hp),H p=none->Same H H'->H' p=some (.lst ((rs1++rs2).map V.ref))->Q (.ref p) H'):rCat (.ref l1) (.ref l2) H Q :=
 ⟨l1,l2,rs1.map V.ref,rs2.map V.ref,rfl,rfl,e1,e2,xa1 (jaF (show (rs1.map V.ref).length+(rs2.map V.ref).length<1000 by rw[xaa,xaa];exact h)),fun p hp=>q p _ hp (Same.new hp _) (by rw[xaj];exact jaf)⟩
theorem All2.keepP {rs:List Addr} {xs:List (Int × List Pt)} (h:All2 (PcAt H) rs xs) (s:SameT H H'):All2 (PcAt H') rs xs:=h.mono fun _ _ k=>PcAt.keep k s
theorem jlU (T:Tx K mg t1 t2) (F:At K mg "pieces_of" jbU ["tree"] []) (dw:jal P w K mg base CX0 (7+n) "pieces_of" ["tree"] [] (jdX n)):jal P w K mg base CX0 (7+n+1) "pieces_of" ["tree"] [] (jdX (n+1)):=by
  refine F.ok jcP (fun vs H Q E h=>?_) (fun f cdv Ar outer s H vs Q E hr h=>?_)
  . obtain⟨v,T,c,rfl,_⟩:=h
    rfl
  obtain⟨v,Tt,c,rfl,hT,hn,hG,c9,l8,q⟩:=h;have S:=jcP;refine⟨_,(jae (jaO (jar jdY (pv 0) jbr (jaz _))
    (jai (jap (jbs jac)))
    jaA)
    (jai (jap (jaq jc7 (jaq jc7 (jaK ja6 rfl T.m_list boot_list (jaa (jaj jao (pv 0) jab) jac jau)) (jah dw (hr.mono (by omega)) rfl jat (jaa (jaj jao (pv 0) jab) jac jau))) (jah dw (hr.mono (by omega)) rfl jat (jaa (jaj jao (pv 0) jab) jac jau)))))),?_⟩
  walk_at "rf";cases hT with
  | nil =>
    rw[if_pos rfl];exact⟨xaG _,fun p hp=>q p _ [] hp (Same.new hp _) jaf .nil⟩
  | nd et hg eh ah hb ha =>
    rename_i t g h rs vb va pl here b a
    rw[if_neg (by intro z;cases z)];obtain⟨_,_,gb,ga⟩:=hG;have hl:here.length+b.pcs.length+a.pcs.length<=800:=by
      have z:(here++b.pcs++a.pcs).length<=800:=l8;rw[xad,xad] at z;exact z
    have hh:b.ht<n/\a.ht<n:=by
      have z:max b.ht a.ht+1<n+1:=hn;omega
    have kt:=SqT.of (K:=K) et;refine ixT kt (i:=1) rfl ⟨_,rfl,_,.inr (SqT.of eh),fun l1 n1=>?_⟩;refine jeP n1 fun H1 j1 e1=>?_;refine ixT (SqT.of (j1 _ _ et)) (i:=2) rfl ⟨_,b,c,rfl,hb.keep j1.t,hh.1,gb,c9,by omega,fun l2 H2 rs2 n2 s2 e2 a2=>?_⟩;have q1:=ah.len;have q2:=a2.len;refine jgx (s2 _ _ e1) e2 (by omega) fun l3 H3 n3 s3 e3=>?_;have s13:=j1.trans (s2.trans s3);refine ixT (SqT.of (s13 _ _ et)) (i:=3) rfl ⟨_,a,c,rfl,ha.keep s13.t,hh.2,ga,c9,by omega,fun l4 H4 rs4 n4 s4 e4 a4=>?_⟩;have q4:=a4.len;refine jgx (s4 _ _ e3) e4 (by rw[xad];omega) fun l5 H5 n5 s5 e5=>?_;have s45:=s4.trans s5;exact q l5 H5 _ ((s13.trans s4).noneN n5) (s13.trans s45) e5 (((ah.keepP (s13.trans s45).t).app (a2.keepP (s3.trans s45).t)).app (a4.keepP s5.t))
theorem jlV (T:Tx K mg t1 t2) (F:At K mg "_law_pieces" jbz ["tree"] []) (db:jal P w K mg base CX0 (7+n) "_law_pieces" ["tree"] [] (jdX n)):jal P w K mg base CX0 (7+n+1) "_law_pieces" ["tree"] [] (jdX (n+1)):=by
  refine F.ok jcd (fun vs H Q E h=>?_) (fun f cdv Ar outer s H vs Q E hr h=>?_)
  . obtain⟨v,T,c,rfl,_⟩:=h
    rfl
  obtain⟨v,Tt,c,rfl,hT,hn,hG,c9,l8,q⟩:=h;have S:=jcd;refine⟨_,(jae (jaO (jar jdY (pv 0) jbr (jaz _))
    (jai (jap (jbs jac)))
    jaA)
    (jai (jap (jaq jc7 (jaq jc7 (jaK ja6 rfl T.m_list boot_list (jaa (jaj jao (pv 0) jab) jac jau)) (jah db (hr.mono (by omega)) rfl jat (jaa (jaj jao (pv 0) jab) jac jau))) (jah db (hr.mono (by omega)) rfl jat (jaa (jaj jao (pv 0) jab) jac jau)))))),?_⟩
  walk_at "rf";cases hT with
  | nil =>
    rw[if_pos rfl];exact⟨xaG _,fun p hp=>q p _ [] hp (Same.new hp _) jaf .nil⟩
  | nd et hg eh ah hb ha =>
    rename_i t g h rs vb va pl here b a
    rw[if_neg (by intro z;cases z)];obtain⟨_,_,gb,ga⟩:=hG;have hl:here.length+b.pcs.length+a.pcs.length<=800:=by
      have z:(here++b.pcs++a.pcs).length<=800:=l8;rw[xad,xad] at z;exact z
    have hh:b.ht<n/\a.ht<n:=by
      have z:max b.ht a.ht+1<n+1:=hn;omega
    have kt:=SqT.of (K:=K) et;refine ixT kt (i:=1) rfl ⟨_,rfl,_,.inr (SqT.of eh),fun l1 n1=>?_⟩;refine jeP n1 fun H1 j1 e1=>?_;refine ixT (SqT.of (j1 _ _ et)) (i:=2) rfl ⟨_,b,c,rfl,hb.keep j1.t,hh.1,gb,c9,by omega,fun l2 H2 rs2 n2 s2 e2 a2=>?_⟩;have q1:=ah.len;have q2:=a2.len;refine jgx (s2 _ _ e1) e2 (by omega) fun l3 H3 n3 s3 e3=>?_;have s13:=j1.trans (s2.trans s3);refine ixT (SqT.of (s13 _ _ et)) (i:=3) rfl ⟨_,a,c,rfl,ha.keep s13.t,hh.2,ga,c9,by omega,fun l4 H4 rs4 n4 s4 e4 a4=>?_⟩;have q4:=a4.len;refine jgx (s4 _ _ e3) e4 (by rw[xad];omega) fun l5 H5 n5 s5 e5=>?_;have s45:=s4.trans s5;exact q l5 H5 _ ((s13.trans s4).noneN n5) (s13.trans s45) e5 (((ah.keepP (s13.trans s45).t).app (a2.keepP (s3.trans s45).t)).app (a4.keepP s5.t))
theorem jkw (T:Tx K mg t1 t2) (F:At K mg "pieces_of" jbU ["tree"] []):∀n:Nat,jal P w K mg base CX0 (7+n) "pieces_of" ["tree"] [] (jdX n)
 | 0=>F.ok (k:=6) jcP (fun vs H Q E ⟨_,_,_,_,_,z,_⟩=>absurd z (xaR _)) fun f cdv Ar outer s H vs Q E hr ⟨_,_,_,_,_,z,_⟩=>absurd z (xaR _)
 | n+1=>jlU T F (jkw T F n)
theorem jqc (T:Tx K mg t1 t2) (F:At K mg "pieces_of" jbU ["tree"] []):jal P w K mg base CX0 16 "pieces_of" ["tree"] [] (jdX 9):=by
 exact jkw T F 9
theorem jkx (T:Tx K mg t1 t2) (F:At K mg "_law_pieces" jbz ["tree"] []):∀n:Nat,jal P w K mg base CX0 (7+n) "_law_pieces" ["tree"] [] (jdX n)
 | 0=>F.ok (k:=6) jcd (fun vs H Q E ⟨_,_,_,_,_,z,_⟩=>absurd z (xaR _)) fun f cdv Ar outer s H vs Q E hr ⟨_,_,_,_,_,z,_⟩=>absurd z (xaR _)
 | n+1=>jlV T F (jkx T F n)
theorem jqd (T:Tx K mg t1 t2) (F:At K mg "_law_pieces" jbz ["tree"] []):jal P w K mg base CX0 16 "_law_pieces" ["tree"] [] (jdX 9):=by
 exact jkx T F 9
theorem Tr.Good.pcs_len {c:Nat}:∀{T:Tr},T.Good c->T.pcs.length<=c*(2^T.ht-1)
  | .nil,_=>xaG _
  | .nd p h b a, ⟨_, ⟨_, hl⟩, gb, ga⟩ => by
    have ib:=gb.pcs_len;have ia:=ga.pcs_len;show (h++b.pcs++a.pcs).length<=c*(2^(max b.ht a.ht+1)-1);rw[xad,xad];have p0:∀n:Nat,1<=2^n:=fun n=>Nat.one_le_two_pow;have mb:2^b.ht<=2^max b.ht a.ht:=xbs (by decide) (Nat.le_max_left _ _);have ma:2^a.ht<=2^max b.ht a.ht:=xbs (by decide) (Nat.le_max_right _ _);have jb:=xaE ib (Nat.mul_le_mul_left c (Nat.sub_le_sub_right mb 1));have ja:=xaE ia (Nat.mul_le_mul_left c (Nat.sub_le_sub_right ma 1));have e:c*(2^(max b.ht a.ht+1)-1)=c+c*(2^max b.ht a.ht-1)+c*(2^max b.ht a.ht-1):=by
      have:=p0 (max b.ht a.ht);rw[Nat.pow_succ];generalize 2^max b.ht a.ht=x at this |-
      obtain⟨y,rfl⟩:∃y,x=y+1:=⟨x-1,by omega⟩;have k:(y+1)*2-1=1+y+y:=by omega
      rw[k,Nat.mul_add,Nat.mul_add,Nat.mul_one,Nat.add_sub_cancel]
    omega
theorem Tr.Good.pcs_ok {c:Nat}:∀{T:Tr},T.Good c->∀x∈T.pcs,PcOk x.2
  | .nil,_,_,hx=>nomatch hx
  | .nd p h b a, ⟨_, ⟨ho, _⟩, gb, ga⟩, x, hx => by
    have hx:x∈h++b.pcs++a.pcs:=hx;rcases xaz.mp hx with hx | hx
    . rcases xaz.mp hx with hx | hx
      . exact ho x hx
      . exact gb.pcs_ok x hx
    . exact ga.pcs_ok x hx
theorem Tr.Good.pcs_800 {c:Nat} {T:Tr} (h:T.Good c) (c4:c<=4) (t7:T.ht<=7):T.pcs.length<=800:=by
 have h1:=h.pcs_len;have h2:2^T.ht<=2^7:=xbs (by decide) t7;have h3:2^T.ht-1<=127:=by
  have:(2:Nat)^7=128:=rfl;omega
 have h4:=xcA c4 h3;omega
def ngP (p:Pt):Pt:=⟨-p.x,-p.y,-p.z,-p.w⟩
theorem jol (Z:Sht) (p:Pt) (u:Tri):hf (jc5 Z (ngP p)) u=-hf (jc5 Z p) u:=jj4 ..
theorem jky (p o:Pt):hgt (ngP p).x (ngP p).y (ngP p).z (ngP p).w o=-hgt p.x p.y p.z p.w o:=by
 show hgt (-p.x) (-p.y) (-p.z) (-p.w) o=_;unfold hgt;grind
theorem jmR {l:Ln} {u:Tri} (h:Prp u v) (n:0<=hf l u):0<=hf l v:=by
 obtain⟨k,m,k0,m0,e1,e2,e3⟩:=h;have e:k*hf l u=m*hf l v:=jgR e1 e2 e3;have h1:=xaJ (xbJ k0) n;rw[e] at h1;exact xal fun z=>by
  have:=xaA m0 (show hf l v<0 by omega);omega
theorem jqe (n:Int):0<=ab n:=by
 unfold ab;split<;>omega
theorem jlW {l m:Ln} (hz:∀v∈vs,1<=v.z) (n:∀v∈vs,0<=hf l v):∀v∈UP (hf m) vs,0<=hf l v:=fun v hv=>by
 by_cases c:∃v∈vs,0<hf m v
 ·rw[jbZ c] at hv;rcases jhG hv with ⟨h,_⟩ | ⟨a,b,ha,hb,o,rfl⟩
  ·exact n v h
  ·refine jmR (jfd (hz a ha) (hz b hb) o) ?_;have e:hf l (xp (hf m) a b)=ab (hf m b)*hf l a+ab (hf m a)*hf l b:=by
    unfold xp jfa hf jaG;simp only;generalize ab _=p;generalize ab _=q;grind
   rw[e];exact Int.add_nonneg (xaJ (jqe _) (n a ha)) (xaJ (jqe _) (n b hb))
 ·rw[jd8 c] at hv;cases hv
theorem jqf {m:Ln} (hz:∀v∈vs,1<=v.z):∀v∈UP (hf m) vs,0<=hf m v:=fun v hv=>by
 by_cases c:∃v∈vs,0<hf m v
 ·rw[jbZ c] at hv;rcases jhG hv with ⟨_,h⟩ | ⟨a,b,ha,hb,o,rfl⟩
  ·exact h
  ·refine jmR (jfd (hz a ha) (hz b hb) o) ?_;have e:hf m (xp (hf m) a b)=0:=jfN o;rw[e];exact xbl _
 ·rw[jd8 c] at hv;cases hv
theorem jom {l:Ln} (R:Rng us) (n:∀u∈us,0<=hf l u) {w:Tri} (hw:hf l w≠0):∃u∈us,0<hf l u:=xal fun z=>hw (by
 have z0:∀i,i<us.length->hf l (tr us i)=0:=fun i hi=>by
  have h1:=n _ (jdH hi);have h2:¬0<hf l (tr us i):=fun h=>z ⟨_,jdH hi,h⟩;omega
 have n3:=R.n3;have d:=R.tp 0 1 2 (by decide) (by decide) (by omega);have a0:=z0 0 (by omega);have a1:=z0 1 (by omega);have a2:=z0 2 (by omega);generalize tr us 0=a at *
 generalize tr us 1=b at *
 generalize tr us 2=c at *
 obtain⟨c1,c2,c3⟩:=jj6 a b c w;have e:dt a b c*hf l w=dt w b c*hf l a+dt a w c*hf l b+dt a b w*hf l c:=by
  unfold hf jaG;grind
 rw[a0,a1,a2,xbj,xbj,xbj] at e;exact (xaI.mp (show dt a b c*hf l w=0 by omega)).resolve_left (by omega))
def Abv (p:Pt) (ps:List Pt):Prop:=(∀c∈ps,0<=hgt p.x p.y p.z p.w c)/\∃c∈ps,0<hgt p.x p.y p.z p.w c
def OnP (p:Pt) (ps:List Pt):Prop:=∀c∈ps,hgt p.x p.y p.z p.w c=0
theorem jkz {c:Pt} (h:c∈rgs Z us):∃u∈us,spt Z u=c:=xax.mp ((jeI _ _).mem.mp h)
theorem jmS {u:Tri} (h:u∈us):spt Z u∈rgs Z us:=(jeI (us.map (spt Z)) (us.map (spt Z))).mem.mpr (xby h)
theorem jqg (hw:1<=Z.w) (hz:∀u∈us,1<=u.z) (n:∀u∈us,0<=hf (jc5 Z p) u) (e:∃u∈us,0<hf (jc5 Z p) u):Abv p (rgs Z us):=by
 refine⟨fun c hc=>?_,?_⟩
 ·obtain⟨u,hu,rfl⟩:=jkz hc;have h:=(jce (Z:=Z) (x:=p.x) (y:=p.y) (z:=p.z) (v:=p.w) hw (hz u hu)).2;have n':0<=hL Z p.x p.y p.z p.w u:=n u hu;exact xal fun k=>by
   have:=h.mp (by omega);omega
 ·obtain⟨u,hu,h⟩:=e;exact⟨_,jmS hu,(jce (Z:=Z) hw (hz u hu)).1.mpr h⟩
theorem jmT (hw:1<=Z.w) (hz:∀u∈us,1<=u.z) (n:∀u∈us,hf (jc5 Z p) u=0):OnP p (rgs Z us):=fun c hc=>by
 obtain⟨u,hu,rfl⟩:=jkz hc;obtain⟨h1,h2⟩:=jce (Z:=Z) (x:=p.x) (y:=p.y) (z:=p.z) (v:=p.w) hw (hz u hu);have n':hL Z p.x p.y p.z p.w u=0:=n u hu;have k1:¬0<hgt p.x p.y p.z p.w (spt Z u):=fun h=>by have:=h1.mp h;omega
 have k2:¬hgt p.x p.y p.z p.w (spt Z u)<0:=fun h=>by have:=h2.mp h;omega
 omega
theorem jqh (hw:1<=Z.w) (hz:∀u∈us,1<=u.z) (n:OnP p (rgs Z us)):∀u∈us,hf (jc5 Z p) u=0:=fun u hu=>by
 have e:=n _ (jmS hu);obtain⟨h1,h2⟩:=jce (Z:=Z) (x:=p.x) (y:=p.y) (z:=p.z) (v:=p.w) hw (hz u hu);have k1:¬0<hL Z p.x p.y p.z p.w u:=fun h=>by have:=h1.mpr h;omega
 have k2:¬hL Z p.x p.y p.z p.w u<0:=fun h=>by have:=h2.mpr h;omega
 show hL Z p.x p.y p.z p.w u=0;omega
structure Sub (ws us:List Tri):Prop where
 r:VF us
 s:∀l:Ln,(∀w∈ws,0<=hf l w)->∀u∈us,0<=hf l u
def Tr.Ord (rk:Int->Nat) (pl:Int->Pt):Tr->Prop
 | .nil=>True
 | .nd p h b a=>(∃x h',h=x::h'/\p=pl x.1/\∀y∈b.pcs++a.pcs,rk x.1<rk y.1)/\(h.map fun x=>rk x.1).Pairwise (· < ·)/\(∀x∈h,OnP p x.2)/\(∀x∈b.pcs,Abv (ngP p) x.2)/\(∀x∈a.pcs,Abv p x.2)/\b.Ord rk pl/\a.Ord rk pl
theorem jeN {Z:Sht} {k:Int} {o:Pt} {c:Nat} (hZ:SZ Z):∀{T:Tr} {ws:List Tri},T.Good c->VF ws->∀x∈(grw Z k o T ws).pcs,x∈T.pcs\/∃us,x=(k,rgs Z us)/\Sub ws us
  | .nil, ws, _, F, x, hx => by
    have hx':x∈[(k,rgs Z ws)]++([]:List (Int × List Pt))++[]:=hx;rw[xbx,xbx] at hx';exact .inr ⟨ws,xam.mp hx',F,fun _ h=>h⟩
  | .nd p h b a, ws, ⟨g1, _, g4, g5⟩, F, x, hx => by
    by_cases e:dnX Z p ws=[]/\upX Z p ws=[]
    . rw[jfR e] at hx
      have hx':x∈(h++[(k,rgs Z ws)])++b.pcs++a.pcs:=hx;show x∈h++b.pcs++a.pcs\/_;simp only[xaz,xam] at hx' |-
      rcases hx' with ((hx | hx) | hx) | hx
      . exact .inl (.inl (.inl hx))
      . exact .inr ⟨ws,hx,F,fun _ h=>h⟩
      . exact .inl (.inl (.inr hx))
      . exact .inl (.inr hx)
    . rw[jfS e] at hx
      have hx':x∈h++(if dnX Z p ws=[] then b else grw Z k o b (dnX Z p ws)).pcs++(if upX Z p ws=[] then a else grw Z k o a (upX Z p ws)).pcs:=hx;show x∈h++b.pcs++a.pcs\/_;simp only[xaz] at hx' |-
      rcases hx' with (hx | hx) | hx
      . exact .inl (.inl (.inl hx))
      . by_cases z:dnX Z p ws=[]
        . rw[if_pos z] at hx
          exact .inl (.inl (.inr hx))
        . rw[if_neg z] at hx
          rcases jeN hZ g4 (jiw hZ g1 F z) x hx with h1 | ⟨us,e1,s1⟩
          . exact .inl (.inl (.inr h1))
          . exact .inr ⟨us,e1,s1.r,fun l hl=>s1.s l (jlW F.rg.hz hl)⟩
      . by_cases z:upX Z p ws=[]
        . rw[if_pos z] at hx
          exact .inl (.inr hx)
        . rw[if_neg z] at hx
          rcases jeN hZ g5 (jiv hZ g1 F z) x hx with h1 | ⟨us,e1,s1⟩
          . exact .inl (.inr h1)
          . exact .inr ⟨us,e1,s1.r,fun l hl=>s1.s l (jlW F.rg.hz hl)⟩
theorem jhU {k:Int} {o:Pt} {c:Nat} {T:Tr} (hZ:SZ Z) (gT:T.Good c) (F:VF ws) (n:UP (hf (jc5 Z p)) ws≠[]) (F':VF (UP (hf (jc5 Z p)) ws)) (h:∀x∈T.pcs,Abv p x.2):∀x∈(grw Z k o T (UP (hf (jc5 Z p)) ws)).pcs,Abv p x.2:=fun x hx=>by
 rcases jeN hZ gT F' x hx with h1 | ⟨us,rfl,s1⟩
 ·exact h x h1
 ·have nn:=s1.s (jc5 Z p) (jqf F.rg.hz);obtain⟨w,_,hw⟩:=jgV n;exact jqg hZ.hw s1.r.rg.hz nn (jom s1.r.rg nn (w:=w) (by omega))
theorem jgY {Z:Sht} {k:Int} {o:Pt} {c:Nat} {rk:Int->Nat} {pl:Int->Pt} (hZ:SZ Z) (eo:o=pl k):∀{T:Tr} {ws:List Tri},T.Good c->VF ws->OnP o (rgs Z ws)->T.Ord rk pl->(∀x∈T.pcs,rk x.1<rk k)->(grw Z k o T ws).Ord rk pl
  | .nil,ws,_,F,on,_,_=>⟨⟨_,_,rfl,eo,fun y hy=>(nomatch hy)⟩,List.pairwise_singleton _ _,fun x hx=>by rw[xam.mp hx];exact on,(fun _ z=>nomatch z),(fun _ z=>nomatch z),trivial,trivial⟩
  | .nd p h b a, ws, ⟨g1, _, g4, g5⟩, F, on, ⟨⟨x0, h', e1, e2, e3⟩, i2, i3, i4, i5, i6, i7⟩, lt => by
    have ltx:∀x∈h,rk x.1<rk k:=fun x hx=>lt x (xaK _ (xaK _ hx));have ltb:∀x∈b.pcs,rk x.1<rk k:=fun x hx=>lt x (xaK _ (xak _ hx));have lta:∀x∈a.pcs,rk x.1<rk k:=fun x hx=>lt x (xak _ hx);by_cases e:dnX Z p ws=[]/\upX Z p ws=[]
    . rw[jfR e]
      refine⟨⟨x0,h'++[(k,rgs Z ws)],by rw[e1];rfl,e2,e3⟩,?_,fun x hx=>?_,i4,i5,i6,i7⟩
      . rw[xaj]
        refine List.pairwise_append.mpr ⟨i2,List.pairwise_singleton _ _,fun u hu v hv=>?_⟩;obtain⟨x,hx,rfl⟩:=xax.mp hu;rw[xam.mp hv];exact ltx x hx
      . rcases xaz.mp hx with hx | hx
        . exact i3 x hx
        . rw[xam.mp hx]
          refine jmT hZ.hw F.rg.hz fun u hu=>?_;have k1:¬0<hf (jc5 Z p) u:=fun h=>by
            have z:=(jcj F.rg ⟨u,hu,h⟩).1.n3;rw[show UP (hf (jc5 Z p)) ws=[] from e.2] at z;exact absurd z (by decide)
          have k2:¬0<hf (jc5 Z (ngP p)) u:=fun h=>by
            have z:=(jcj F.rg ⟨u,hu,h⟩).1.n3;rw[show UP (hf (jc5 Z (ngP p))) ws=[] from e.1] at z;exact absurd z (by decide)
          rw[jol] at k2;omega
    . rw[jfS e]
      have low:∀{S:Tr} {us:List Tri},S.Good c->VF us->(∀y∈S.pcs,rk x0.1<rk y.1)->∀y∈(grw Z k o S us).pcs,rk x0.1<rk y.1:=fun gS Fu hS y hy=>by
        rcases jeN hZ gS Fu y hy with h1 | ⟨us,rfl,_⟩
        . exact hS y h1
        . exact ltx x0 (by rw[e1];exact .head _)
      have e3b:∀y∈b.pcs,rk x0.1<rk y.1:=fun y hy=>e3 y (xaK _ hy);have e3a:∀y∈a.pcs,rk x0.1<rk y.1:=fun y hy=>e3 y (xak _ hy);have on':∀{m:Ln} ,OnP o (rgs Z (UP (hf m) ws)):=fun {m}=>by
        have z:=jqh hZ.hw F.rg.hz on;by_cases c:∃v∈ws,0<hf m v
        . refine jmT hZ.hw (jcj F.rg c).1.hz fun u hu=>?_
          have n1:=jlW (l:=jc5 Z o) F.rg.hz (fun v hv=>by rw[z v hv];exact xbl _) u hu;have n2:=jlW (l:=jc5 Z (ngP o)) F.rg.hz (fun v hv=>by rw[jol,z v hv];decide) u hu;rw[jol] at n2;omega
        . rw[jd8 c]
          exact fun c hc=>by
            obtain⟨u,hu,_⟩:=jkz hc;cases hu
      refine⟨⟨x0,h',e1,e2,fun y hy=>?_⟩,i2,i3,?_,?_,?_,?_⟩
      . rcases xaz.mp hy with hy | hy
        . by_cases z:dnX Z p ws=[]
          . rw[if_pos z] at hy;exact e3b y hy
          . rw[if_neg z] at hy;exact low g4 (jiw hZ g1 F z) e3b y hy
        . by_cases z:upX Z p ws=[]
          . rw[if_pos z] at hy;exact e3a y hy
          . rw[if_neg z] at hy;exact low g5 (jiv hZ g1 F z) e3a y hy
      . by_cases z:dnX Z p ws=[]
        . rw[if_pos z];exact i4
        . rw[if_neg z];exact jhU (p:=ngP p) hZ g4 F z (jiw hZ g1 F z) i4
      . by_cases z:upX Z p ws=[]
        . rw[if_pos z];exact i5
        . rw[if_neg z];exact jhU hZ g5 F z (jiv hZ g1 F z) i5
      . by_cases z:dnX Z p ws=[]
        . rw[if_pos z];exact i6
        . rw[if_neg z];exact jgY hZ eo g4 (jiw hZ g1 F z) on' i6 ltb
      . by_cases z:upX Z p ws=[]
        . rw[if_pos z];exact i7
        . rw[if_neg z];exact jgY hZ eo g5 (jiv hZ g1 F z) on' i7 lta
theorem DOk.on {x:Dsc} (h:DOk x):OnP (plP (rgs x.2.1 x.2.2)) (rgs x.2.1 x.2.2):=fun c hc=>by
 have B:=jqb h.z.hw h.z.nz h.f.rg (by have:=h.l6;omega) (DOk.rr x);obtain⟨i,hi,rfl⟩:=xbF.mp hc;have fl:=B.flat i hi;have ep:pt (rgs x.2.1 x.2.2) i=(rgs x.2.1 x.2.2)[i]:=by
  unfold pt;rw[xac,xab hi];rfl
 rw[ep] at fl;have na:=B.na;have nz:¬(jaB 0 (pt (rgs x.2.1 x.2.2) 0) (pt (rgs x.2.1 x.2.2) 1) (pt (rgs x.2.1 x.2.2) 2)=0/\-jaB 1 (pt (rgs x.2.1 x.2.2) 0) (pt (rgs x.2.1 x.2.2) 1) (pt (rgs x.2.1 x.2.2) 2)=0/\jaB 2 (pt (rgs x.2.1 x.2.2) 0) (pt (rgs x.2.1 x.2.2) 1) (pt (rgs x.2.1 x.2.2) 2)=0):=fun ⟨z0,z1,z2⟩=>na ⟨z0,by omega,z2⟩;obtain⟨a,b,c',d,g,e,g0,i1,i2,i3,i4⟩:=joj (d:=jaB 3 (pt (rgs x.2.1 x.2.2) 0) (pt (rgs x.2.1 x.2.2) 1) (pt (rgs x.2.1 x.2.2) 2)) nz;have eP:=jmO (ps:=rgs x.2.1 x.2.2) (a:=a) (b:=b) (c:=c') (d:=d) e;rw[eP];rw[jok i1 i2 i3 i4] at fl;exact (xaI.mp fl).resolve_left g0
theorem jkA {rk:Int->Nat} {pl:Int->Pt} {ys:List Dsc} (hk:∀y∈ys,DOk y) (n9:ys.length<=9) (hr:∀(i:Nat) (y:Dsc),ys[i]?=some y->rk y.1=i) (hp:∀y∈ys,pl y.1=plP (rgs y.2.1 y.2.2)):∀n,n<=ys.length->(grs (ys.take n)).Ord rk pl/\∀x∈(grs (ys.take n)).pcs,rk x.1<n/\∃y∈ys.take n,x.1=y.1
  | 0,_=>⟨trivial,fun _ z=>nomatch z⟩
  | n + 1, h => by
    obtain⟨i1,i2⟩:=jkA hk n9 hr hp n (by omega);have hy:ys[n]?=some ys[n]:=xab (by omega);have hm:ys[n]∈ys:=xa2 _;rw[xaZ,hy];obtain⟨g1,g2⟩:=jff n (ys.take n) (by rw[xau];omega) (fun y h=>hk y (xbi h)) (by omega);rw[show grs (List.take n ys++(some ys[n]).toList)=grT (grs (ys.take n)) ys[n] from jdI _ _];have D:=hk _ hm;have r:=hr n _ hy;refine⟨jgY D.z (hp _ hm).symm g1 D.f D.on i1 fun x hx=>by rw[r];exact (i2 x hx).1,fun x hx=>?_⟩;rcases jeN D.z g1 D.f x hx with h1 | ⟨us,rfl,_⟩
    . obtain⟨l,y,hy,e⟩:=i2 x h1
      exact⟨by omega,y,xaK _ hy,e⟩
    . exact⟨by rw[r];omega,_,xak _ (xam.mpr rfl),rfl⟩
def jkB:Sp:=fun vs H Q _=>∃(a L:Addr) (rs:List Addr),vs=[.ref a,.ref L]/\H a=some (.lst (rs.map V.ref))/\(∀r∈rs,∃x,PcAt H r x)/\a≠L/\Sta H L/\rs.length<900/\∀(l:Addr) (H':Hp) (rs':List Addr),H l=none->SameB L H H'->Sta H' L->H' l=some (.lst (rs'.map V.ref))->rs'.Perm rs->Q (.ref l) H'
theorem jlX (T:Tx K mg t1 t2) (F:At K mg "_law_turned" jcr ["some","state"] []) (de:jal P w K mg base CX0 1 "_law_next" ["state","many"] [] jox):jal P w K mg base CX0 2 "_law_turned" ["some","state"] [] jkB:=by
 refine F.ok jde (fun vs H Q E h=>?_) (fun f cdv A outer s H vs Q E hr h=>?_)
 ·obtain⟨a,L,rs,rfl,_⟩:=h;rfl
 obtain⟨a,L,rs,rfl,ea,hpc,aL,b0,l9,q⟩:=h;have S:=jde;refine⟨_,(jae (jas (i:=2) S.nd rfl (Or.inl rfl) (jaK ja6 rfl T.m_list boot_list (jaa (pv 0) jac jag)))
  (jae (jas (i:=3) S.nd rfl (Or.inl rfl) (jbs jac))
  (jae (jdu PassesOwn.never (jar (jcD (jgA hr)) (pv 2) (jbs jac) (jaz _))
  (jai (jb7 (jfm PySem.F.plainAttrs_list PySem.F.slot_list_append PySem.F.type_list_append jbe (pv 3) (jaa (jfm PySem.F.plainAttrs_list PySem.F.slot_list_pop PySem.F.type_list_pop jkT (pv 2) (jaa (jah de hr.m rfl jat (jaa (pv 1) (jaa (jav jaJ rfl T.m_len PySem.boot_len (jaa (pv 2) jac jag)) jac jaN) jag)) jac jaN)) jac jaN)))))
  (jai (jap (pv 3)))))),?_⟩
 walk_at "rf";refine⟨_,.inl (SqL.of ea),fun l hl=>⟨by decide,fun p hp=>?_⟩⟩;have j1:=Same.new hl (.lst (rs.map V.ref));have j2:=Same.new hp (.lst []);have lp:l≠p:=jax (show upd H l (.lst (rs.map V.ref)) l=some _ from jaf) hp;have el0:=j2 _ _ (show upd H l (.lst (rs.map V.ref)) l=some (.lst (rs.map V.ref)) from jaf);have ep0:upd (upd H l (.lst (rs.map V.ref))) p (.lst []) p=some (.lst []):=jaf;have s0:=j1.trans j2;have hp0:=j1.noneN hp;generalize upd (upd H l (.lst (rs.map V.ref))) p (.lst [])=H0 at el0 ep0 s0;have lL:l≠L:=b0.ne hl;have pL:p≠L:=b0.ne hp0;refine⟨fun n σ Hk=>σ=[some (.ref a),some (.ref L),some (.ref l),some (.ref p)]/\∃xs ys:List Addr,Hk l=some (.lst (xs.map V.ref))/\Hk p=some (.lst (ys.map V.ref))/\(ys++xs).Perm rs/\SameB L H Hk/\Sta Hk L/\n=xs.length,⟨_,rfl,rs,[],el0,ep0,.rfl,s0.b,b0.keep s0,rfl⟩,?_⟩;rintro n σ Hk ⟨rfl,xs,ys,el,ep,pm,sB,bk,rfl⟩;have tk:SameT H Hk:=b0.t sB;have ln:=pm.length_eq;rw[xad] at ln;walk_at "rf";refine⟨by decide,fun e he=>?_⟩;have j:=Same.new he (.lst []);obtain⟨ds,hds⟩:∃ds,All2 (PcAt Hk) xs ds:=jkm fun r hr=>by
  obtain⟨x,hx⟩:=hpc r (pm.mem_iff.mp (xak _ hr));exact⟨x,hx.keep tk⟩
 refine joa (j _ _ el) (hds.mono fun _ _ h=>h.keep j.t) jaf ⟨_,rfl,?_⟩;have el':=j _ _ el;have ep':=j _ _ ep;have sB':=sB.trans j.b;have bk':=bk.keep j;generalize upd Hk e (.lst [])=Hm at el' ep' sB' bk' |-
 refine jcA (fun c=>?_) fun c=>?_
 ·have n0:0<xs.length:=by
   cases xs with
   | nil=>exact absurd c (by decide)
   | cons _ _=>exact Nat.succ_pos _
  refine⟨fun σ' H'=>σ'=[some (.ref a),some (.ref L),some (.ref l),some (.ref p)]/\∃xs' ys':List Addr,H' l=some (.lst (xs'.map V.ref))/\H' p=some (.lst (ys'.map V.ref))/\(ys'++xs').Perm rs/\SameB L H H'/\Sta H' L/\xs'.length<xs.length,fun σ' H' ⟨h1,xs',ys',h2,h3,h4,h6,h7,h8⟩=>⟨_,h8,h1,xs',h2,ys',h3,h4,h6,h7,rfl⟩,.inl ⟨_,SqL.of ep'⟩,.inl ⟨_,SqL.of el'⟩,_,.inl (SqL.of el'),?_⟩;rw[xaa];refine⟨L,_,rfl,bk',by omega,by omega,fun Hn d sn bn d0 dn=>?_⟩;have en:=sn _ _ lL el';have enp:=sn _ _ pL ep';obtain⟨k,rfl⟩:=xbL d0;have hk:k<xs.length:=by omega
  refine⟨l,_,k,k,.ref xs[k],rfl,rfl,en,by omega (config:={}),by omega (config:={}),(jgG (jkc (by rw[xaa];exact hk))).1,by rw[xaf,xab hk];rfl,?_⟩;have em:(xs.map V.ref).eraseIdx k=(xs.eraseIdx k).map V.ref:=by
   rw[xa6,xa6,xaj,xb7,xb6]
  rw[em];refine⟨p,_,_,rfl,rfl,by rw[jaC (Ne.symm lp)];exact enp,jaF (by rw[xaa];omega),rfl,xs.eraseIdx k,ys++[xs[k]],by rw[jaC lp,jaf],by rw[jaf,xaj];rfl,?_,?_,?_,?_⟩
  ·refine .trans ?_ pm;rw[xbu];refine List.Perm.append_left _ ?_;rw[xa6,List.singleton_append];refine List.Perm.trans ?_ (.of_eq (xaW k xs));rw[xbU hk];exact List.perm_middle.symm
  ·have sn':=sB'.trans sn;intro b o nb hb;have b1:b≠l:=jax hb hl;have b2:b≠p:=jax hb hp0;rw[jaC b2,jaC b1];exact sn' b o nb hb
  ·obtain⟨u,v,h1,h2⟩:=bn;exact⟨u,v,by rw[jaC (Ne.symm pL),jaC (Ne.symm lL)];exact h1,h2⟩
  ·rw[xbT hk];omega
 ·have e0:xs=[]:=by
   cases xs with
   | nil=>rfl
   | cons _ _=>exact absurd rfl c
  subst e0;rw[xbx] at pm;exact q p Hm ys hp0 sB' bk' ep' pm
def FitP (p:Pt):Prop:=Fit p.x/\Fit p.y/\Fit p.z/\Fit p.w
theorem PlG.fitP (h:PlG p):FitP p:=⟨(Bd.mono h.1.1:Bd 650 _).fit,(Bd.mono h.1.2.1:Bd 650 _).fit,(Bd.mono h.1.2.2:Bd 650 _).fit,(Bd.mono h.2:Bd 650 _).fit⟩
theorem jlY {rs:List Addr} (h:Sps H rs ps) (m:r∈rs):∃p∈ps,Is4 H r p:=by
  induction h with
  | nil=>cases m
  | cons h _ ih =>
    rcases xap.mp m with rfl | m
    . exact⟨_,.head _,h⟩
    . obtain⟨p,hp,k⟩:=ih m
      exact⟨p,.tail _ hp,k⟩
def jhV:Sp:=fun vs H Q _=>∃(b g:Addr) (ps:List Pt) (p:Pt),vs=[.ref b,.ref g]/\BoAt H b ps/\Is4 H g p/\PlG p/\ps.length<=100/\OnP p ps/\∀H',Same H H'->Q (.bl true) H'
theorem jon (T:Tx K mg t1 t2) (F:At K mg "_law_lies" jbV ["board","plane"] []) (dL:jal P w K mg base CX0 1 "_law_height" ["plane","spot"] [] spHg):jal P w K mg base CX0 2 "_law_lies" ["board","plane"] [] jhV:=by
 refine F.ok jd6 (fun vs H Q E h=>?_) (fun f cdv A outer s H vs Q E hr h=>?_)
 ·obtain⟨b,g,ps,p,rfl,_⟩:=h;rfl
 obtain⟨b,g,ps,p,rfl,⟨rs,eb,hs⟩,hg,gp,l100,on,q⟩:=h;have S:=jd6;refine⟨_,(jai (jap (jav (ja2 rfl) rfl T.m_all boot_all (jaa (ja4 rfl (N':=["corner","plane"]) (ix:=[1]) ⟨rfl,rfl,by decide +kernel,by decide +kernel,by decide +kernel,(show ∀y:Str × NameKind,y∈_->y.2=NameKind.free->(jad jbV).names.lookup y.1=some .cell\/(jad jbV).names.lookup y.1=some .free from by decide +kernel),(.cons rfl (.inl rfl) rfl .nil)⟩ (jcu (pv 0)) (fun _ _ _ _=>jan (i:=0) (show (["corner","plane"]:List Str).Nodup from by decide +kernel) rfl (Or.inl rfl)) (fun _ _ _ _=>jaR) (fun _ _ _ _=>(jdh jea (jah dL hr.m rfl jat (jaa (pv 1) (jaa (pv 0) jac jag) jag)) jab (jaz _)))) jac jb4)))),?_⟩;walk_at "rf";have lr:=hs.len;refine⟨⟨_,SqT.of eb⟩,fun acc hacc=>jja (fun _=>.bl true) (by rw[xaa];show rs.length<1000;have:rs.length=ps.length:=lr;omega) hacc (SqT.of eb) (fun z J R hz s3 hR=>?_) fun J j2 e4=>?_⟩
 ·obtain⟨r',hr',rfl⟩:=xax.mp hz;obtain⟨c,hc,k1⟩:=jlY hs hr';have z:=on c hc;walk_at "rf";refine⟨g,r',p.x,p.y,p.z,p.w,c,rfl,(hg.keep s3).1,gp.fitP,k1.keep s3,?_⟩;rw[z];exact⟨rfl,hR _ (Same.refl _)⟩
 ·refine⟨(rs.map V.ref).map fun _=>true,SqL.of (e4.trans (congrArg (fun l=>some (HO.lst l)) (jfU _))),?_⟩;rw[jfV];exact q _ j2
def jhW:Sp:=fun vs H Q _=>∃(l g:Addr) (sg:Int) (rs:List Addr) (xs:List (Int × List Pt)) (p:Pt),vs=[.ref l,.ref g,.int sg]/\H l=some (.lst (rs.map V.ref))/\All2 (PcAt H) rs xs/\Is4 H g p/\PlG p/\rs.length<900/\(∀x∈xs,x.2.length<=100/\1<=x.2.length)/\((sg=1/\∀x∈xs,Abv p x.2)\/(sg=-1/\∀x∈xs,Abv (ngP p) x.2))/\∀H',Same H H'->Q (.bl true) H'
theorem joo (T:Tx K mg t1 t2) (F:At K mg "_law_sided" jbH ["pieces","plane","sign"] []) (dL:jal P w K mg base CX0 1 "_law_height" ["plane","spot"] [] spHg):jal P w K mg base CX0 2 "_law_sided" ["pieces","plane","sign"] [] jhW:=by
 refine F.ok jdE (fun vs H Q E h=>?_) (fun f cdv A outer s H vs Q E hr h=>?_)
 ·obtain⟨l,g,sg,rs,xs,p,rfl,_⟩:=h;rfl
 obtain⟨l,g,sg,rs,xs,p,rfl,el,ax,hg,gp,l9,ln,ab,q⟩:=h;have S:=jdE;refine⟨_,(jae (jbE PassesOwn.never rfl (jbo (pv 0)) (jdt rfl (jay (jan (i:=3) S.nd rfl (Or.inl rfl)) (jay (jan (i:=4) S.nd rfl (Or.inl rfl)) jbb)))
  (jae (jbD (i:=5) rfl S.nd rfl rfl (N':=["corner","plane","sign"]) (ix:=[1,2]) ⟨rfl,rfl,by decide +kernel,by decide +kernel,by decide +kernel,(show ∀y:Str × NameKind,y∈_->y.2=NameKind.free->(jad jbH).names.lookup y.1=some .cell\/(jad jbH).names.lookup y.1=some .free from by decide +kernel),(.cons rfl (.inl rfl) rfl (.cons rfl (.inl rfl) rfl .nil))⟩ (jcu (pv 4)) (fun _ _ _ _=>jan (i:=0) (show (["corner","plane","sign"]:List Str).Nodup from by decide +kernel) rfl (Or.inl rfl)) (fun _ _ _ _=>jaR) (fun _ _ _ _=>(jaq jaw (jah dL hr.m rfl jat (jaa (pv 1) (jaa (pv 0) jac jag) jag)) (pv 2))))
  (jai (jaO (PW.pt (jds (jar jfZ (jav (jer rfl) rfl T.m_min boot_min (jaa (pv 5) jac jag)) jab (jaz _)) (jc6 (jar jea (jav (jeq rfl) rfl T.m_max boot_max (jaa (pv 5) jac jag)) jab (jaz _)))))
  (jai (jap jb6))
  jaA))))
  (jai (jap jb6))),?_⟩
 walk_at "rf";refine⟨⟨_,SqL.of el⟩,jbL (K:=K) (a:=l) (xs:=rs.map V.ref) (fun i σ Hh=>∃o3 o4 o5:Option V,σ=[some (.ref l),some (.ref g),some (.int sg),o3,o4,o5]/\Same H Hh) ⟨_,_,_,rfl,Same.refl _⟩ (fun i σ Hh _ ⟨_,_,_,_,sx⟩=>sx.seq (SqL.of el)) ?_ ?_⟩
 ·rintro i z σ Hh hi ⟨o3,o4,o5,rfl,sx⟩;rw[xaf] at hi;obtain⟨r,hr',rfl⟩:=xaD.mp hi;obtain⟨x,hx,b,e1,rs',eb,hs⟩:=ax.getA hr';have xm:=xav hx;walk_at "rf";refine⟨_,SqT.of (sx _ _ e1),rfl,_,_,rfl,_,_,rfl,rfl,b,rfl,⟨_,SqT.of (sx _ _ eb)⟩,fun acc hacc=>?_⟩;obtain⟨n100,n1⟩:=ln x xm;have lrs:rs'.length=x.2.length:=hs.len;refine jma (zs:=rs'.map V.ref) (fun i y _=>∀c,x.2[i]?=some c->y=.int (hgt p.x p.y p.z p.w c*sg)) (fun _ _ _ _ h _=>h) (by rw[xaa];omega) hacc (SqT.of (sx _ _ eb)) (fun i z J R hz s3 hR=>?_) fun ys J j2 e4 l4 p4=>?_
  ·rw[xaf] at hz;obtain⟨r',hr',rfl⟩:=xaD.mp hz;obtain⟨k1,k2⟩:=hs.get (i:=i) (by have:=(xag.mp hr').1;omega);rw[xaf,hr'] at k1;cases k1;have ep:x.2[i]?=some (pt x.2 i):=by
    have li:=(xag.mp hr').1;unfold pt;rw[xac,xab (show i<x.2.length by omega)];rfl
   have fh:Fit (hgt p.x p.y p.z p.w (pt x.2 i)):=Bd.fit (jgo (n:=94) (m:=650) (Bd.mono gp.1.1) (Bd.mono gp.1.2.1) (Bd.mono gp.1.2.2) gp.2 ⟨Bd.mono k2.2.1,Bd.mono k2.2.2.1,Bd.mono k2.2.2.2.1,Bd.mono k2.2.2.2.2⟩);have fs:Fit sg:=by rcases ab with ⟨rfl,_⟩ | ⟨rfl,_⟩<;>exact Fit.o (by decide) (by decide)
   walk_at "rf";refine⟨g,_,p.x,p.y,p.z,p.w,_,rfl,(hg.keep (sx.trans s3)).1,gp.fitP,k2.keep (sx.trans s3),?_⟩;exact⟨_,rfl,fh,fs,hR _ _ (Same.refl _) fun c hc=>by rw[ep] at hc;cases hc;rfl⟩
  have lys:ys.length=x.2.length:=by rw[l4,xaa,lrs]
  have ey:ys=(x.2.map fun c=>hgt p.x p.y p.z p.w c*sg).map V.int:=by
   apply xbH;intro i;rw[xaf,xaf];by_cases c:i<ys.length
   ·rw[xab c,xab (show i<x.2.length by omega)];exact congrArg some (p4 i _ (xab c) _ (xab (show i<x.2.length by omega)))
   ·rw[xaF (by omega),xaF (by omega)];rfl
  rw[ey] at e4;have A:(∀c∈x.2,0<=hgt p.x p.y p.z p.w c*sg)/\∃c∈x.2,0<hgt p.x p.y p.z p.w c*sg:=by
   rcases ab with ⟨rfl,h⟩ | ⟨rfl,h⟩
   ·obtain⟨h1,c,hc,h2⟩:=h x xm;exact⟨fun c hc=>by have:=h1 c hc;omega,c,hc,by omega⟩
   ·obtain⟨h1,c,hc,h2⟩:=h x xm;rw[jky] at h2;exact⟨fun c hc=>by have:=h1 c hc;rw[jky] at this;omega,c,hc,by omega⟩
  have ne:(x.2.map fun c=>hgt p.x p.y p.z p.w c*sg)≠[]:=fun z=>by
   have:=congrArg List.length z;rw[xaa] at this;simp at this;rw[this] at n1;exact absurd n1 (by decide)
  refine⟨_,SqL.of e4,ne,fun m hm hmin=>?_⟩;obtain⟨c,hc,rfl⟩:=xax.mp hm;rw[if_neg (by have:=A.1 c hc;omega)];refine⟨_,SqL.of e4,ne,fun m hm hmax=>?_⟩;obtain⟨c2,hc2,h2⟩:=A.2;rw[if_neg (by have:=hmax _ (xby hc2);omega)];exact sx.trans j2
 ·rintro σ Hh ⟨o3,o4,o5,rfl,sx⟩;exact q Hh sx
variable {ρ σ:L2.St}
variable {te:TE}
theorem jkC {a:Addr} {g:TG} {acc:Addr} {Z:Hp->Prop} (f:Nat->V) (hn:zs.length<1000) (hacc:H1 acc=none) (hz:SqL K H1 a zs)
  (hs:∀(i:Nat) (z:V) (v0:L2.St) (H3:Hp) (R:V->Hp->Prop),zs[i]?=some z->v0.length=n->Same H1 H3->(∀H4,Same H3 H4->R (f i) H4)->g z (v0++ρ) H3 fun σ2 H2=>(∃v:L2.St,v.length=n/\σ2=v++ρ)/\te σ2 H2 R)
  (hd:∀H',Same H1 H'->H' acc=some (.lst ((List.range zs.length).map f))->Z H')
  (mono:∀z σ H (A B:L2.St->Hp->Prop),(∀σ' H',A σ' H'->B σ' H')->g z σ H A->g z σ H B):jbS (Itl K a) n ρ g jcl te acc Z H1:=by
 refine⟨fun i m xs H=>(Same H1 H/\H acc=some (.lst xs)/\xs=(List.range i).map f)/\i<=zs.length/\m=zs.length-i,⟨zs.length,⟨Same.new hacc _,jaf,rfl⟩,xaG _,rfl⟩,?_⟩;rintro i m xs H ⟨⟨g1,g2,rfl⟩,hi,rfl⟩;have sq:=g1.seq hz;by_cases hlt:i<zs.length
 ·have ez:zs[i]?=some zs[i]:=xab hlt;refine .inr ⟨⟨zs,zs[i],sq,ez⟩,(fun y H4=>y=f i/\Same H1 H4/\H4 acc=some (.lst ((List.range i).map f))),fun _=>False,?_,fun _ z=>z.elim,?_⟩
  ·rintro y H4 ⟨rfl,s4,a4⟩;refine⟨a4,jaF (by simp;omega),zs.length-(i+1),by omega,⟨Same.keepN s4 hacc _,jaf,?_⟩,hlt,rfl⟩;rw[xaM,xaj];rfl
  ·rintro v0 x H' l0 ⟨rfl,hx⟩;have ex:x=zs[i]:=by
    have z:=hx zs sq;rw[ez] at z;exact (Option.some.inj z).symm
   subst ex;refine mono _ _ _ _ _ (fun σ' H'' h=>?_) (hs i _ v0 H' (fun y H4=>y=f i/\Same H1 H4/\H4 acc=some (.lst ((List.range i).map f))) ez l0 g1 fun H4 s4=>⟨rfl,g1.trans s4,s4 _ _ g2⟩);refine⟨h.1,?_⟩;simp only[jcl,if_true];exact h.2
 ·have e:i=zs.length:=by omega
  subst e;exact .inl ⟨⟨zs,sq,xae _⟩,hd _ g1 g2⟩
theorem jkD {a:Addr} {g:TG} {acc:Addr} {Z:Hp->Prop} (f:Nat->V) (hn:zs.length<1000) (hacc:H1 acc=none) (hz:SqT K H1 a zs)
  (hs:∀(i:Nat) (z:V) (v0:L2.St) (H3:Hp) (R:V->Hp->Prop),zs[i]?=some z->v0.length=n->Same H1 H3->(∀H4,Same H3 H4->R (f i) H4)->g z (v0++ρ) H3 fun σ2 H2=>(∃v:L2.St,v.length=n/\σ2=v++ρ)/\te σ2 H2 R)
  (hd:∀H',Same H1 H'->H' acc=some (.lst ((List.range zs.length).map f))->Z H')
  (mono:∀z σ H (A B:L2.St->Hp->Prop),(∀σ' H',A σ' H'->B σ' H')->g z σ H A->g z σ H B):jbS (Itt K a) n ρ g jcl te acc Z H1:=by
 refine⟨fun i m xs H=>(Same H1 H/\H acc=some (.lst xs)/\xs=(List.range i).map f)/\i<=zs.length/\m=zs.length-i,⟨zs.length,⟨Same.new hacc _,jaf,rfl⟩,xaG _,rfl⟩,?_⟩;rintro i m xs H ⟨⟨g1,g2,rfl⟩,hi,rfl⟩;have sq:=g1.tup hz;by_cases hlt:i<zs.length
 ·have ez:zs[i]?=some zs[i]:=xab hlt;refine .inr ⟨⟨zs,zs[i],sq,ez⟩,(fun y H4=>y=f i/\Same H1 H4/\H4 acc=some (.lst ((List.range i).map f))),fun _=>False,?_,fun _ z=>z.elim,?_⟩
  ·rintro y H4 ⟨rfl,s4,a4⟩;refine⟨a4,jaF (by simp;omega),zs.length-(i+1),by omega,⟨Same.keepN s4 hacc _,jaf,?_⟩,hlt,rfl⟩;rw[xaM,xaj];rfl
  ·rintro v0 x H' l0 ⟨rfl,hx⟩;have ex:x=zs[i]:=by
    have z:=hx zs sq;rw[ez] at z;exact (Option.some.inj z).symm
   subst ex;refine mono _ _ _ _ _ (fun σ' H'' h=>?_) (hs i _ v0 H' (fun y H4=>y=f i/\Same H1 H4/\H4 acc=some (.lst ((List.range i).map f))) ez l0 g1 fun H4 s4=>⟨rfl,g1.trans s4,s4 _ _ g2⟩);refine⟨h.1,?_⟩;simp only[jcl,if_true];exact h.2
 ·have e:i=zs.length:=by omega
  subst e;exact .inl ⟨⟨zs,sq,xae _⟩,hd _ g1 g2⟩
theorem jfW :∀(z:V) (σ:L2.St) (H:Hp) (A B:L2.St->Hp->Prop),(∀σ' H',A σ' H'->B σ' H')->jkI K 2 (jdJ (jbA i) (jdJ (jbA j) jkN)) z σ H A->jkI K 2 (jdJ (jbA i) (jdJ (jbA j) jkN)) z σ H B:=by
 intro z σ H A B hAB h;obtain⟨p,xs,h1,h2,h3,h4⟩:=h;refine⟨p,xs,h1,h2,h3,?_⟩;obtain⟨v,r,e1,v',r',e2,e3,h5⟩:=h4;exact⟨v,r,e1,v',r',e2,e3,hAB _ _ h5⟩
theorem jlZ {v0:L2.St} (h:v0.length=2):∃a b,v0=[a,b]:=match v0,h with | [a,b],_=>⟨a,b,rfl⟩
theorem jgy {α β:Type} (f:α->β) (l:List α) (g:Nat->β) (h:∀i a,l[i]?=some a->g i=f a):(List.range l.length).map g=l.map f:=by
 apply xbH;intro i;rw[xaf,xaf];by_cases c:i<l.length
 ·rw[List.getElem?_range c,xab c];show some (g i)=some (f l[i]);rw[h i l[i] (xab c)]
 ·rw[xaF (by simp;omega),xaF (by omega)];rfl
theorem jhX {ta:L2.TE} {ix:List Nat} {g:L2.TG} {tt:L2.TT} {te:L2.TE} :jhd (iTup K ta) ix n g tt te σ H Q=ta σ H fun x H1=>∃a,x=.ref a/\(∃xs,SqT K H1 a xs)/\∀acc,H1 acc=none->jbS (Itt K a) n (jaD σ ix) g tt te acc (fun H'=>Q (.ref acc) H') H1:=rfl
theorem jgz:∀{xs ys:List Int},xs.Pairwise (· < ·)->ys.Pairwise (· < ·)->(∀k,k∈ys↔k∈xs)->xs=ys
  | [],[],_,_,_=>rfl
  | [],y::ys,_,_,h=>nomatch (h y).mp (.head _)
  | x::xs,[],_,_,h=>nomatch (h x).mpr (.head _)
  | x :: xs, y :: ys, hx, hy, h => by
    have hx':=xbA.mp hx;have hy':=xbA.mp hy;have e:x=y:=by
      have h1:=(h y).mp (.head _);have h2:=(h x).mpr (.head _);rcases xap.mp h1 with h1 | h1
      . exact h1.symm
      . rcases xap.mp h2 with h2 | h2
        . exact h2
        . have:=hx'.1 y h1
          have:=hy'.1 x h2;omega
    subst e;rw[jgz hx'.2 hy'.2 fun k=>⟨fun hk=>?_,fun hk=>?_⟩]
    . have:=hy'.1 k hk
      rcases xap.mp ((h k).mp (.tail _ hk)) with e | e
      . omega
      . exact e
    . have:=hx'.1 k hk
      rcases xap.mp ((h k).mpr (.tail _ hk)) with e | e
      . omega
      . exact e
structure DKs (H:Hp) (dR dP:Addr) (rk:Int->Nat) (pl:Int->Pt) (xs:List (Int × List Pt)):Prop where
 eR:∃kR,H dR=some (.dK kR)/\∀x∈xs,jeb kR (.inl x.1)=some (.int (rk x.1))
 eP:∃kP,H dP=some (.dK kP)/\∀x∈xs,∃r,jeb kP (.inl x.1)=some (.ref r)/\Is4 H r (pl x.1)
theorem DKs.keep {dR dP:Addr} {rk:Int->Nat} {pl:Int->Pt} {xs:List (Int × List Pt)} (h:DKs H dR dP rk pl xs) (s:Same H H'):DKs H' dR dP rk pl xs:=by
 obtain⟨⟨kR,e1,h1⟩,kP,e2,h2⟩:=h;exact⟨⟨kR,s _ _ e1,h1⟩,kP,s _ _ e2,fun x hx=>let ⟨r,a,b⟩:=h2 x hx;⟨r,a,b.keep s⟩⟩
theorem DKs.sub {dR dP:Addr} {rk:Int->Nat} {pl:Int->Pt} {xs ys:List (Int × List Pt)} (h:DKs H dR dP rk pl xs) (s:∀y∈ys,y∈xs):DKs H dR dP rk pl ys:=by
 obtain⟨⟨kR,e1,h1⟩,kP,e2,h2⟩:=h;exact⟨⟨kR,e1,fun x hx=>h1 x (s x hx)⟩,kP,e2,fun x hx=>h2 x (s x hx)⟩
def jqi (n:Nat):Sp:=fun vs H Q _=>∃(v:V) (dR dP:Addr) (T:Tr) (c:Nat) (rk:Int->Nat) (pl:Int->Pt),vs=[v,.ref dR,.ref dP]/\TrAt H v T/\(T.ht<n/\T.ht<=8)/\T.Good c/\c<60/\T.pcs.length<=800/\T.Ord rk pl/\DKs H dR dP rk pl T.pcs/\∀H',Same H H'->Q (.bl true) H'
theorem jop (T:Tx K mg t1 t2) (F:At K mg "_law_in_order" jaE ["tree","rank","planes"] []) (dm:jal P w K mg base CX0 2 "_law_lies" ["board","plane"] [] jhV) (db:jal P w K mg base CX0 16 "_law_pieces" ["tree"] [] (jdX 9)) (dh:jal P w K mg base CX0 2 "_law_sided" ["pieces","plane","sign"] [] jhW) (dA:jal P w K mg base CX0 (17+n) "_law_in_order" ["tree","rank","planes"] [] (jqi n)):jal P w K mg base CX0 (17+n+1) "_law_in_order" ["tree","rank","planes"] [] (jqi (n+1)):=by
  refine F.ok jbI (fun vs H Q E h=>?_) (fun f cdv Ar outer s H vs Q E hr h=>?_)
  . obtain⟨v,dR,dP,T,c,rk,pl,rfl,_⟩:=h
    rfl
  obtain⟨v,dR,dP,Tt,c,rk,pl,rfl,hT,⟨hn,h8⟩,hG,c9,l8,ord,dk,q⟩:=h;have S:=jbI;refine⟨_,(jae (jaO (jar jdY (pv 0) jbr (jaz _))
    (jai (jap jb6))
    jaA)
    (jae (jcC (pv 0) (jdt rfl (jay (jan (i:=3) S.nd rfl (Or.inr rfl)) (jay (jan (i:=4) S.nd rfl (Or.inl rfl)) (jay (jan (i:=5) S.nd rfl (Or.inl rfl)) (jay (jan (i:=6) S.nd rfl (Or.inl rfl)) jbb))))))
    (jae (jas (i:=7) S.nd rfl (Or.inr rfl) (jcf rfl (N':=["number","board","rank"]) (ix:=[1]) (xs0:=["number","board"]) ⟨rfl,rfl,by decide +kernel,by decide +kernel,by decide +kernel,(show ∀y:Str × NameKind,y∈_->y.2=NameKind.free->(jad jaE).names.lookup y.1=some .cell\/(jad jaE).names.lookup y.1=some .free from by decide +kernel),(.cons rfl (.inl rfl) rfl .nil)⟩ (jcu (pv 4)) (fun _ _ _ _=>jdl (K:=K) (n:=2) rfl rfl (jay (jan (i:=0) (show (["number","board","rank"]:List Str).Nodup from by decide +kernel) rfl (Or.inl rfl)) (jay (jan (i:=1) (show (["number","board","rank"]:List Str).Nodup from by decide +kernel) rfl (Or.inl rfl)) jbb))) (fun _ _ _ _=>jaR) (fun _ _ _ _=>(jaj jfv (pv 2) (pv 0)))))
    (jae (jaO (PW.pt (jds (jar (jf8 (jgA hr)) (pv 7) (jbs jac) (jaz _)) (jds (jar (jcD (jgA hr)) (pv 7) (jav (jin rfl) rfl T.m_sorted boot_sorted (jaa (jaK (jjl rfl) rfl T.m_set boot_set (jaa (pv 7) jac jag)) jac jaN)) (jaz _)) (jc6 (jar (jcD (jgA hr)) (pv 3) (jaj jfv (pv 2) (jaj jao (jaj jao (pv 4) jab) jab)) (jaz _))))))
    (jai (jap jb6))
    jaA)
    (jae (jaO (jb0 (jbB (jav (ja2 rfl) rfl T.m_all boot_all (jaa (jcf rfl (N':=["number","board","plane"]) (ix:=[3]) (xs0:=["number","board"]) ⟨rfl,rfl,by decide +kernel,by decide +kernel,by decide +kernel,(show ∀y:Str × NameKind,y∈_->y.2=NameKind.free->(jad jaE).names.lookup y.1=some .cell\/(jad jaE).names.lookup y.1=some .free from by decide +kernel),(.cons rfl (.inl rfl) rfl .nil)⟩ (jcu (pv 4)) (fun _ _ _ _=>jdl (K:=K) (n:=2) rfl rfl (jay (jan (i:=0) (show (["number","board","plane"]:List Str).Nodup from by decide +kernel) rfl (Or.inl rfl)) (jay (jan (i:=1) (show (["number","board","plane"]:List Str).Nodup from by decide +kernel) rfl (Or.inl rfl)) jbb))) (fun _ _ _ _=>jaR) (fun _ _ _ _=>(jah dm (hr.mono (by omega)) rfl jat (jaa (pv 1) (jaa (pv 2) jac jag) jag)))) jac jb4))))
    (jai (jap jb6))
    jaA)
    (jae (jas (i:=8) S.nd rfl (Or.inl rfl) (jaq jc7 (jah db (hr.mono (by omega)) rfl jat (jaa (pv 5) jac jag)) (jah db (hr.mono (by omega)) rfl jat (jaa (pv 6) jac jag))))
    (jae (jaO (jb0 (jbB (jav (ja2 rfl) rfl T.m_all boot_all (jaa (jcf rfl (N':=["number","board","rank","places"]) (ix:=[1,7]) (xs0:=["number","board"]) ⟨rfl,rfl,by decide +kernel,by decide +kernel,by decide +kernel,(show ∀y:Str × NameKind,y∈_->y.2=NameKind.free->(jad jaE).names.lookup y.1=some .cell\/(jad jaE).names.lookup y.1=some .free from by decide +kernel),(.cons rfl (.inl rfl) rfl (.cons rfl (.inl rfl) rfl .nil))⟩ (jbo (pv 8)) (fun _ _ _ _=>jdl (K:=K) (n:=2) rfl rfl (jay (jan (i:=0) (show (["number","board","rank","places"]:List Str).Nodup from by decide +kernel) rfl (Or.inl rfl)) (jay (jan (i:=1) (show (["number","board","rank","places"]:List Str).Nodup from by decide +kernel) rfl (Or.inl rfl)) jbb))) (fun _ _ _ _=>jaR) (fun _ _ _ _=>(jdh jgF (jaj jfv (pv 2) (pv 0)) (jaj (jg8 (K:=K) rfl) (pv 3) jab) (jaz _)))) jac jb4))))
    (jai (jap jb6))
    jaA)
    (jae (jaO (PW.pt (jds (jb0 (jbB (jah dh (hr.mono (by omega)) rfl jat (jaa (jah db (hr.mono (by omega)) rfl jat (jaa (pv 5) jac jag)) (jaa (pv 3) (jaa (jd9 jcv jab) jac jh9) jag) jaN)))) (jc6 (jb0 (jbB (jah dh (hr.mono (by omega)) rfl jat (jaa (jah db (hr.mono (by omega)) rfl jat (jaa (pv 6) jac jag)) (jaa (pv 3) (jaa jab jac jam) jag) jaN)))))))
    (jai (jap jb6))
    jaA)
    (jai (jap (jek (jah dA (hr.mono (by omega)) rfl jat (jaa (pv 5) (jaa (pv 1) (jaa (pv 2) jac jag) jag) jag)) (jeV (jah dA (hr.mono (by omega)) rfl jat (jaa (pv 6) (jaa (pv 1) (jaa (pv 2) jac jag) jag) jag)))))))))))))),?_⟩
  walk_at "rf";refine jcA (fun e=>?_) fun e=>?_
  . exact q H (Same.refl _)
  cases hT with
  | nil=>exact absurd rfl e
  | @nd t g h rs vb va p here B A h1 h2 h3 h4 h5 h6 =>
  obtain⟨g1,⟨g2,g3⟩,g4,g5⟩:=hG;obtain⟨⟨x0,h',eh,ep,low⟩,up,on,ab,aa,ob,oa⟩:=ord;have hlen:B.pcs.length+A.pcs.length<=800:=by
    have z:(here++B.pcs++A.pcs).length<=800:=l8;rw[xad,xad] at z;omega
  have hh:max B.ht A.ht+1<n+1:=hn;have hh8:max B.ht A.ht+1<=8:=h8;have dkh:=dk.sub (ys:=here) fun y hy=>xaK _ (xaK _ hy);have dkb:=dk.sub (ys:=B.pcs) fun y hy=>xaK _ (xak _ hy);have dka:=dk.sub (ys:=A.pcs) fun y hy=>xak _ hy;have lh:=h4.len;refine⟨t,rfl,_,SqT.of h1,rfl,_,_,rfl,_,_,rfl,_,_,rfl,_,_,rfl,rfl,?_⟩;rw[jhX];walk_at "rf";refine⟨⟨_,SqT.of h3⟩,fun acc hacc=>?_⟩;refine jkD (fun i=>V.int (rk (here.getD i (0,[])).1)) (by rw[xaa];omega) hacc (SqT.of h3) (fun i z v0 J R hz l0 s3 hR=>?_) (fun J j2 e2=>?_) jfW
  . rw[xaf] at hz
    obtain⟨r,hr1,rfl⟩:=xaD.mp hz;obtain⟨x,hx,b,e1,_⟩:=h4.getA hr1;obtain⟨v1,v2,rfl⟩:=jlZ l0;have ex:here.getD i (0,[])=x:=by rw[xac,hx];rfl
    rw[ex] at hR;obtain⟨⟨kR,er,hk⟩,_⟩:=dkh.keep s3;refine⟨_,_,rfl,SqT.of (s3 _ _ e1),rfl,_,_,rfl,_,_,rfl,rfl,⟨[_,_],rfl,rfl⟩,?_⟩;exact⟨_,rfl,_,rfl,dR,kR,.inl x.1,_,rfl,rfl,er,hk x (xav hx),hR _ (Same.refl _)⟩
  have eP:(List.range (rs.map V.ref).length).map (fun i=>V.int (rk (here.getD i (0,[])).1))=(here.map fun x=>(rk x.1:Int)).map V.int:=by
    rw[xaa,lh,xaO];exact jgy (fun x:Int × List Pt=>V.int (rk x.1)) here _ fun i a h=>by rw[xac,h];rfl
  rw[eP] at e2;have nP:(here.map fun x=>(rk x.1:Int))≠[]:=by rw[eh];exact fun z=>nomatch z
  have pP:(here.map fun x=>(rk x.1:Int)).Pairwise (· < ·):=by
    rw[List.pairwise_map] at up |-
    exact up.imp fun h=>by omega
  have lP:(here.map fun x=>(rk x.1:Int)).length<60:=by rw[xaa];omega
  have p0:(here.map fun x=>(rk x.1:Int))[0]?=some (rk x0.1:Int):=by rw[eh];rfl
  generalize (here.map fun x=>(rk x.1:Int))=P at e2 nP pP lP p0;refine⟨xaG _,fun p1 hp1=>?_⟩;have j1:=Same.new hp1 (.lst []);have k2:=j1 _ _ e2;refine jkZ (x:=P) (y:=[]) (SqL.of k2) (SqL.of jaf) ⟨_,rfl,?_⟩;rw[decide_eq_false nP,if_neg (by decide)];have s1:=j2.trans j1;generalize upd J p1 (.lst [])=J1 at k2 s1 |-
  clear j1 j2 e2 hp1 p1;refine⟨acc,P,rfl,k2,by omega,fun p2 hp2=>?_⟩;have j2:=Same.new hp2 (jov w p2 P);refine⟨p2,P,rfl,jaf,by omega,fun p3 ms hp3 pms mms=>?_⟩;have j3:=Same.new hp3 (.lst (ms.map V.int));rw[<- jgz pP pms mms] at j3 |-
  have k3:=(j2.trans j3) _ _ k2;refine jfr (x:=P) (y:=P) (SqL.of k3) (SqL.of jaf) ⟨_,rfl,?_⟩;rw[decide_eq_true rfl,if_neg (by decide)];have s2:=s1.trans (j2.trans j3);generalize upd (upd J1 p2 (jov w p2 P)) p3 (.lst (P.map V.int))=J2 at k3 s2 |-
  clear j2 j3 hp2 hp3 pms mms ms k2 s1;obtain⟨r0,rs0,e0,b0,f1,_⟩:∃r0 rs0,rs=r0::rs0/\∃b0,H r0=some (.tup [.int x0.1,.ref b0])/\BoAt H b0 x0.2:=by
    rw[eh] at h4;cases h4 with
    | cons hh tt =>
      obtain⟨b0,f1,f2⟩:=hh;exact⟨_,_,rfl,b0,f1,f2⟩
  obtain⟨_,kP,e5,hkp⟩:=dkh.keep s2;obtain⟨r5,hr5,is5⟩:=hkp x0 (by rw[eh];exact .head _);refine ixT (SqT.of (s2 _ _ h3)) (i:=0) (v:=.ref r0) (jaI (j:=0) (by rw[e0];rfl)) (ixT (SqT.of (s2 _ _ f1)) (i:=0) rfl ⟨dP,kP,.inl x0.1,_,rfl,rfl,e5,hr5,?_⟩);rw[<- ep] at is5;have h2':=h2.keep s2;refine jkY (x:=[p.x,p.y,p.z,p.w]) (y:=[p.x,p.y,p.z,p.w]) (SqT.of h2'.1) (SqT.of is5.1) ⟨_,rfl,?_⟩;rw[decide_eq_true rfl,if_neg (by decide),jhX];walk_at "rf";refine⟨⟨_,SqT.of (s2 _ _ h3)⟩,fun acc2 hacc2=>?_⟩;refine jkD (fun i=>V.bl true) (by rw[xaa];omega) hacc2 (SqT.of (s2 _ _ h3)) (fun i z v0 J R hz l0 s3 hR=>?_) (fun J3 j3 e3=>?_) jfW
  . rw[xaf] at hz
    obtain⟨r,hr1,rfl⟩:=xaD.mp hz;obtain⟨x,hx,b,e1,bo⟩:=h4.getA hr1;have xm:=xav hx;obtain⟨v1,v2,rfl⟩:=jlZ l0;obtain⟨Z,vs,_,_,l16,r16⟩:=g2 x xm;have lx:=r16.len;rw[xaa] at lx;refine⟨_,_,rfl,SqT.of ((s2.trans s3) _ _ e1),rfl,_,_,rfl,_,_,rfl,rfl,⟨[_,_],rfl,rfl⟩,?_⟩;exact⟨_,rfl,_,rfl,b,g,x.2,p,rfl,bo.keep (s2.trans s3).t,h2.keep (s2.trans s3),g1,(show x.2.length<=100 by omega),on x xm,fun H' s'=>hR _ s'⟩
  have at1:∀m:Nat,((List.range m).map fun _=>V.bl true)=((List.range m).map fun _=>true).map V.bl:=fun m=>by rw[xaO];rfl
  have at2:∀m:Nat,((List.range m).map fun _=>true).all id=true:=fun m=>xbr.mpr fun b hb=>by
    obtain⟨_,_,rfl⟩:=xax.mp hb;rfl
  rw[at1] at e3;refine⟨_,SqL.of e3,?_⟩;rw[at2,if_neg (by decide)];have s3:=s2.trans j3;have k3:=j3 _ _ k3;clear j3 e3 hacc2 acc2;refine⟨vb,B,c,rfl,h5.keep s3.t,by omega,g4,by omega,by omega,fun l1 H1 rs1 n1 j1 e1 a1=>⟨va,A,c,rfl,h6.keep (s3.trans j1).t,by omega,g5,by omega,by omega,fun l2 H2 rs2 n2 j2 e2 a2=>?_⟩⟩;have q1:=a1.len;have q2:=a2.len;refine jgx (j2 _ _ e1) e2 (by omega) fun l3 H3 n3 j3 e3=>?_;have a3:All2 (PcAt H3) (rs1++rs2) (B.pcs++A.pcs):=(a1.keepP (j2.trans j3).t).app (a2.keepP j3.t);have s4:=s3.trans (j1.trans (j2.trans j3));have k4:=(j1.trans (j2.trans j3)) _ _ k3;refine⟨l3,rfl,⟨_,SqL.of e3⟩,fun acc3 hacc3=>?_⟩;have l12:(rs1++rs2).length=rs1.length+rs2.length:=xad;refine jkC (fun i=>V.bl true) (by rw[xaa];omega) hacc3 (SqL.of e3) (fun i z v0 J R hz l0 s5 hR=>?_) (fun J4 j4 e4=>?_) jfW
  . rw[xaf] at hz
    obtain⟨r,hr1,rfl⟩:=xaD.mp hz;obtain⟨x,hx,b,f2,bo⟩:=a3.getA hr1;have xm:=xav hx;obtain⟨v1,v2,rfl⟩:=jlZ l0;obtain⟨⟨kR,er,hk⟩,_⟩:=(dk.sub (ys:=B.pcs++A.pcs) fun y hy=>by
      rcases xaz.mp hy with h | h
      . exact xaK _ (xak _ h)
      . exact xak _ h).keep (s4.trans s5)
    have lw:=low x xm;refine⟨_,_,rfl,SqT.of (s5 _ _ f2),rfl,_,_,rfl,_,_,rfl,rfl,⟨[_,_],rfl,rfl⟩,?_⟩;refine⟨_,rfl,_,rfl,dR,kR,.inl x.1,_,rfl,rfl,er,hk x xm,?_⟩;refine⟨_,rfl,?_⟩;walk_at "rf";refine ixL (SqL.of (s5 _ _ k4)) (i:=0) (v:=.int (rk x0.1:Int)) (jaI (j:=0) (by rw[xaf,p0];rfl)) ⟨_,rfl,?_⟩;rw[decide_eq_true (by omega)];exact hR _ (Same.refl _)
  rw[at1] at e4;refine⟨_,SqL.of e4,?_⟩;rw[at2,if_neg (by decide)];have s5:=s4.trans j4;have lenB:∀{S:Tr},S.Good c->∀x∈S.pcs,x.2.length<=100/\1<=x.2.length:=fun gS x hx=>by
    obtain⟨Z,vs,_,F,l16,r16⟩:=gS.pcs_ok x hx;have lx:=r16.len;rw[xaa] at lx;have:=F.rg.n3;omega
  clear j4 e4 hacc3 acc3 e3 a3 n3 k4 e2 a2 n2 q2 e1 a1 n1 q1 s4 s3 j1 j2 j3 l12;refine⟨vb,B,c,rfl,h5.keep s5.t,by omega,g4,by omega,by omega,fun l1 H1 rs1 n1 j1 e1 a1=>?_⟩;have q1:=a1.len;refine⟨l1,g,-1,rs1,B.pcs,p,rfl,e1,a1,h2.keep (s5.trans j1),g1,by omega,lenB g4,.inr ⟨rfl,ab⟩,fun H2 j2=>⟨true,rfl,?_⟩⟩;rw[if_neg (by decide)];have s6:=s5.trans (j1.trans j2);refine⟨va,A,c,rfl,h6.keep s6.t,by omega,g5,by omega,by omega,fun l2 H3 rs2 n2 j3 e2 a2=>?_⟩;have q2:=a2.len;refine⟨l2,g,1,rs2,A.pcs,p,rfl,e2,a2,h2.keep (s6.trans j3),g1,by omega,lenB g5,.inl ⟨rfl,aa⟩,fun H4 j4=>⟨true,rfl,?_⟩⟩;rw[if_neg (by decide)];have s7:=s6.trans (j3.trans j4);refine⟨vb,dR,dP,B,c,rk,pl,rfl,h5.keep s7.t,⟨by omega,by omega⟩,g4,c9,by omega,ob,dkb.keep s7,fun H5 j5=>⟨true,rfl,?_⟩⟩;rw[if_pos rfl];have s8:=s7.trans j5;exact⟨va,dR,dP,A,c,rk,pl,rfl,h6.keep s8.t,⟨by omega,by omega⟩,g5,c9,by omega,oa,dka.keep s8,fun H6 j6=>q H6 (s8.trans j6)⟩
theorem jmU (T:Tx K mg t1 t2) (F:At K mg "_law_in_order" jaE ["tree","rank","planes"] []) (dm:jal P w K mg base CX0 2 "_law_lies" ["board","plane"] [] jhV) (db:jal P w K mg base CX0 16 "_law_pieces" ["tree"] [] (jdX 9)) (dh:jal P w K mg base CX0 2 "_law_sided" ["pieces","plane","sign"] [] jhW):∀n:Nat,jal P w K mg base CX0 (17+n) "_law_in_order" ["tree","rank","planes"] [] (jqi n)
 | 0=>F.ok (k:=16) jbI (fun vs H Q E ⟨_,_,_,_,_,_,_,_,_,⟨z,_⟩,_⟩=>absurd z (xaR _)) fun f cdv Ar outer s H vs Q E hr ⟨_,_,_,_,_,_,_,_,_,⟨z,_⟩,_⟩=>absurd z (xaR _)
 | n+1=>jop T F dm db dh (jmU T F dm db dh n)
theorem ok_io (T:Tx K mg t1 t2) (F:At K mg "_law_in_order" jaE ["tree","rank","planes"] []) (dm:jal P w K mg base CX0 2 "_law_lies" ["board","plane"] [] jhV) (db:jal P w K mg base CX0 16 "_law_pieces" ["tree"] [] (jdX 9)) (dh:jal P w K mg base CX0 2 "_law_sided" ["pieces","plane","sign"] [] jhW):jal P w K mg base CX0 23 "_law_in_order" ["tree","rank","planes"] [] (jqi 6):=by
 exact jmU T F dm db dh 6
theorem jkE {n:Bool} {u v:V} {T:Tr} (hu:TrAt H u T) (hv:TrAt H v T) (l:T.ht<=50) (q:Q (.bl (!n)) H):ji5 K n u v H Q:=by
 obtain⟨a,b⟩:=jgX T;have sh:SeqAt.shaped (trD T)=true:=by
  unfold SeqAt.shaped;rw[a,decide_eq_true (by omega)];rfl
 refine⟨_,_,hu.rds,hv.rds,sh,sh,?_⟩;rw[SeqAt.eqv_refl _ (SeqAt.canLay_of_shaped sh)];cases n
 ·exact q
 ·exact q
theorem jgZ {n:Bool} {l m:Addr} {rs rs':List Addr} {xs:List (Int × List Pt)} (e1:H l=some (.lst (rs.map V.ref))) (a1:All2 (PcAt H) rs xs) (e2:H m=some (.lst (rs'.map V.ref))) (a2:All2 (PcAt H) rs' xs) (q:Q (.bl (!n)) H):ji5 K n (.ref l) (.ref m) H Q:=by
 obtain⟨a,b⟩:=jgW xs;have sh:SeqAt.shaped (.list (xs.map pcD))=true:=by
  unfold SeqAt.shaped;simp [PyData.canLay0,PyData.depth,a];omega
 refine⟨_,_,.lst (SqL.of e1) (jfT a1),.lst (SqL.of e2) (jfT a2),sh,sh,?_⟩;rw[SeqAt.eqv_refl _ (SeqAt.canLay_of_shaped sh)];cases n
 ·exact q
 ·exact q
section
variable {α β γ:Type}
theorem jkF {R:α->β->Prop} {as as':List α} (p:as'.Perm as):∀{bs:List β},All2 R as bs->∃bs':List β,bs'.Perm bs/\All2 R as' bs':=by
  induction p with
  | nil=>exact fun h=>⟨_,.rfl,h⟩
  | cons x p ih =>
    intro bs h;cases h with
    | cons h t =>
      obtain⟨b',p',a'⟩:=ih t;exact⟨_::b',p'.cons _,.cons h a'⟩
  | swap x y l =>
    intro bs h;cases h with
    | cons h1 t =>
      cases t with
      | cons h2 t=>exact⟨_::_::_,.swap ..,.cons h2 (.cons h1 t)⟩
  | trans p q i1 i2 =>
    intro bs h;obtain⟨b1,p1,a1⟩:=i2 h;obtain⟨b2,p2,a2⟩:=i1 a1;exact⟨b2,p2.trans p1,a2⟩
theorem jhY {R:α->γ->Prop} {f:β->γ}:∀{as:List α} {bs:List β},All2 R as (bs.map f)->All2 (fun a b=>R a (f b)) as bs
 | [],[],_=>.nil
 | _::_,[],h=>nomatch h
 | [],_::_,h=>nomatch h
 | _::_,_::_,.cons h t=>.cons h (jhY t)
theorem jkG {R:α->γ->Prop} {f:β->γ}:∀{as:List α} {bs:List β},All2 (fun a b=>R a (f b)) as bs->All2 R as (bs.map f)
 | _,_,.nil=>.nil
 | _,_,.cons h t=>.cons h (jkG t)
end
theorem jkH {β:Type} (d:β):∀(ys:List Dsc) (g:Nat->Dsc->β),(ys.map (·.1)).Nodup->∃f:Int->β,∀(i:Nat) (y:Dsc),ys[i]?=some y->f y.1=g i y
  | [],_,_=>⟨fun _=>d,fun _ _ h=>nomatch h⟩
  | y0 :: ys, g, nd => by
    rw[xay,xbn] at nd;obtain⟨f,hf⟩:=jkH d ys (fun i y=>g (i+1) y) nd.2;refine⟨fun k=>if k=y0.1 then g 0 y0 else f k,fun i y h=>?_⟩;cases i with
    | zero =>
      cases h;exact if_pos rfl
    | succ i =>
      have h':ys[i]?=some y:=h;have ne:y.1≠y0.1:=fun z=>nd.1 (by rw[<- z];exact xby (xav h'));show (if y.1=y0.1 then _ else f y.1)=_;rw[if_neg ne];exact hf i y h'
variable {rm:List Addr}
theorem jhZ {acc:Addr} {ys:List Dsc} {Z:Hp->Prop} (eM:H1 M=some (.lst (rm.map V.ref))) (aM:All2 (PcAt H1) rm (ys.map dPc)) (l9:ys.length<900) (hacc:H1 acc=none) (q:∀J,Same H1 J->J acc=some (.lst ((ys.map (·.1)).map V.int))->Z J):jbS (Itl K M) 2 [] (jkI K 2 (jdJ (jbA 0) (jdJ (jbA 1) jkN))) jcl (jl0 0) acc Z H1:=by
 have lM:=aM.len;rw[xaa] at lM;refine jkC (fun i=>V.int ((ys.map dPc).getD i (0,[])).1) (by rw[xaa];omega) hacc (SqL.of eM) (fun i z v0 J R hz l0 s3 hR=>?_) (fun J j2 e2=>?_) jfW
 ·rw[xaf] at hz;obtain⟨r,hr1,rfl⟩:=xaD.mp hz;obtain⟨x,hx,b,e1,_⟩:=aM.getA hr1;obtain⟨v1,v2,rfl⟩:=jlZ l0;have ex:(ys.map dPc).getD i (0,[])=x:=by rw[xac,hx];rfl
  rw[ex] at hR;exact⟨_,_,rfl,SqT.of (s3 _ _ e1),rfl,_,_,rfl,_,_,rfl,rfl,⟨[_,_],rfl,rfl⟩,_,rfl,hR _ (Same.refl _)⟩
 have eP:(List.range (rm.map V.ref).length).map (fun i=>V.int ((ys.map dPc).getD i (0,[])).1)=(ys.map (·.1)).map V.int:=by
  rw[xaa,lM,<- xaa (f:=dPc)];rw[jgy (fun x:Int × List Pt=>V.int x.1) (ys.map dPc) _ fun i a h=>by rw[xac,h];rfl];rw[xaO,xaO];rfl
 rw[eP] at e2;exact q J j2 e2
structure B41 (H:Hp) (S M W D:Addr) (rs rm:List Addr) (xs ys:List Dsc):Prop where
 eS:H S=some (.lst (rs.map V.ref))
 aS:All2 (PcAt H) rs (xs.map dPc)
 eM:H M=some (.lst (rm.map V.ref))
 aM:All2 (PcAt H) rm (ys.map dPc)
 eW:H W=some (.lst ((ys.map (·.1)).map V.int))
 eD:H D=some (.lst (rs.map V.ref))
 kx:∀x∈xs,DOk x
 sub:∀y∈ys,y∈xs
 ndx:(xs.map (·.1)).Nodup
 ndy:(ys.map (·.1)).Nodup
 lx:xs.length<=4
 ly:ys.length<=4
theorem B41.keep {rs:List Addr} {xs ys:List Dsc} (h:B41 H S M W D rs rm xs ys) (s:Same H H'):B41 H' S M W D rs rm xs ys:=⟨s _ _ h.eS,h.aS.keepP s.t,s _ _ h.eM,h.aM.keepP s.t,s _ _ h.eW,s _ _ h.eD,h.kx,h.sub,h.ndx,h.ndy,h.lx,h.ly⟩
theorem B41.ky {rs:List Addr} {xs ys:List Dsc} (h:B41 H S M W D rs rm xs ys):∀y∈ys,DOk y:=fun y hy=>h.kx y (h.sub y hy)
theorem B41.good {rs:List Addr} {xs ys:List Dsc} (h:B41 H S M W D rs rm xs ys):(grs ys).Good 4/\(grs ys).ht<=4/\(grs ys).pcs.length<=800:=by
 obtain⟨g1,g2⟩:=jff _ ys rfl h.ky (by have:=h.ly;omega);have g1:=g1.mono h.ly;have g2:(grs ys).ht<=4:=xaE g2 h.ly;exact⟨g1,g2,g1.pcs_800 (xae _) (by omega)⟩
def lQ7:L2.St->Hp->Prop:=fun σ H'=>∃(S M W D:Addr) (rs rm:List Addr) (xs ys:List Dsc) (f:V) (o0 o1 o2 o4:Option V),σ=[o0,o1,o2,some (.ref S),o4,some (.ref M),some (.ref W),some (.ref D),some f,none,none,none,none,none,none,none]/\B41 H' S M W D rs rm xs ys/\TrAt H' f (grs ys)
def lQ9:L2.St->Hp->Prop:=fun σ H'=>∃(S M W D:Addr) (rs rm:List Addr) (xs ys:List Dsc) (f t:V) (o0 o1 o2 o4 o10:Option V),σ=[o0,o1,o2,some (.ref S),o4,some (.ref M),some (.ref W),some (.ref D),some f,some t,o10,none,none,none,none,none]/\B41 H' S M W D rs rm xs ys/\TrAt H' f (grs ys)/\TrAt H' t (grs ys)
def lQ13:L2.St->Hp->Prop:=fun σ H'=>∃(S M W D dR dP:Addr) (rs rm:List Addr) (xs ys:List Dsc) (f:V) (o0 o1 o2 o4 o9 o10 o13 o14:Option V) (rk:Int->Nat) (pl:Int->Pt),σ=[o0,o1,o2,some (.ref S),o4,some (.ref M),some (.ref W),some (.ref D),some f,o9,o10,some (.ref dR),some (.ref dP),o13,o14,none]/\B41 H' S M W D rs rm xs ys/\TrAt H' f (grs ys)/\(grs ys).Ord rk pl/\DKs H' dR dP rk pl (grs ys).pcs
def lQ16:L2.St->Hp->Prop:=fun σ H'=>∃(S M W D T1:Addr) (rs rm r1:List Addr) (xs ys:List Dsc) (f:V) (o0 o1 o2 o4 o9 o10 o11 o12 o13 o14:Option V),σ=[o0,o1,o2,some (.ref S),o4,some (.ref M),some (.ref W),some (.ref D),some f,o9,o10,o11,o12,o13,o14,some (.ref T1)]/\B41 H' S M W D rs rm xs ys/\TrAt H' f (grs ys)/\H' T1=some (.lst (r1.map V.ref))/\r1.length<=800/\T1≠S/\T1≠M/\T1≠W/\T1≠D
theorem jqj {e:Addr} {ed:FuncData} (T:Tx K mg t1 t2) (F:FunD K "law" "law" jdS e ed .none) (Dd:jal P w K mg base CX0 2 "_law_folded" ["script","many"] [] (jmE K)) (dE:jal P w K mg base CX0 1 "_law_state" ["cell"] [] jnU) (Di:jal P w K mg base CX0 2 "_law_count" ["state"] [] jkv) (Dl:jal P w K mg base CX0 7 "_law_some" ["cells"] [] (jmL K)) (Df:jal P w K mg base CX0 2 "_law_turned" ["some","state"] [] jkB) (dX:jal P w K mg base CX0 18 "tree_of" ["some","row"] [] jp8) (Ds:jal P w K mg base CX0 18 "tree_of" ["some","row"] [.non] jp8) (di:jal P w K mg base CX0 17 "grown_by" ["tree","piece"] [] jkr) (dB:jal P w K mg base CX0 16 "_law_is_tree" ["found"] [] (jp4 9)) (Dh:jal P w K mg base CX0 2 "_law_plane" ["corners"] [] jp1) (dA:jal P w K mg base CX0 23 "_law_in_order" ["tree","rank","planes"] [] (jqi 6)) (dw:jal P w K mg base CX0 16 "pieces_of" ["tree"] [] (jdX 9)) (db:jal P w K mg base CX0 16 "_law_pieces" ["tree"] [] (jdX 9)):FnOk P w K mg base CX0 24 e ed ["script"] (jll K):=by
 refine F.ok jmi (fun vs H Q E h=>?_) (fun cdv A outer s H vs Q E hr h=>?_)
 ·obtain⟨a,ns,rfl,_⟩:=h;rfl
 obtain⟨a,ns,rfl,ha,hn,q⟩:=h;have S:=jmi;refine⟨_,(jae (jas (i:=1) S.nd rfl (Or.inl rfl) (jah Dd hr.m rfl jat (jaa (pv 0) (jaa jab jac jam) jag)))
  (jae (jas (i:=2) S.nd rfl (Or.inl rfl) (jah dE hr.m rfl jat (jaa (jaj ix_list (pv 1) jab) jac jau)))
  (jae (jcC (jah Dl hr.m rfl jat (jaa (jb2 sl_list (pv 1) (jck jab) (jck (jaq jbq jab (jah Di hr.m rfl jat (jaa (pv 2) jac jag))))) jac jau)) (jdt rfl (jay (jan (i:=3) S.nd rfl (Or.inl rfl)) (jay (jan (i:=4) S.nd rfl (Or.inl rfl)) jbb))))
  (jae (jas (i:=5) S.nd rfl (Or.inl rfl) (jah Df hr.m rfl jat (jaa (pv 3) (jaa (jah dE hr.m rfl jat (jaa (jaj ix_list (pv 1) jab) jac jau)) jac jaN) jag)))
  (jae (jgK (i:=6) rfl S.nd rfl rfl (N':=["number","board"]) (ix:=[]) (xs0:=["number","board"]) ⟨rfl,rfl,by decide +kernel,by decide +kernel,by decide +kernel,(show ∀y:Str × NameKind,y∈_->y.2=NameKind.free->(jad jdS).names.lookup y.1=some .cell\/(jad jdS).names.lookup y.1=some .free from by decide +kernel),.nil⟩ (jbo (pv 5)) (fun _ _ _ _=>jdl (K:=K) (n:=2) rfl rfl (jay (jan (i:=0) (show (["number","board"]:List Str).Nodup from by decide +kernel) rfl (Or.inl rfl)) (jay (jan (i:=1) (show (["number","board"]:List Str).Nodup from by decide +kernel) rfl (Or.inl rfl)) jbb))) (fun _ _ _ _=>jaR) (fun _ _ _ _=>(pv 0)))
  (jae (jas (i:=7) S.nd rfl (Or.inl rfl) (jaK ja6 rfl T.m_list boot_list (jaa (pv 3) jac jag)))
  (jae (jas (i:=8) S.nd rfl (Or.inl rfl) (jah dX hr.m rfl jat (jaa (pv 7) (jaa (pv 6) jac jag) jag)))
  (ja3 lQ7 (jaO (PW.pt (jds (jb0 (jbB (jah dB hr.m rfl jat (jaa (pv 8) jac jag)))) (jds (jar (jcD (jgA hr)) (pv 7) (pv 3) (jaz _)) (jc6 (jar (jcD (jgA hr)) (pv 6) (jcf rfl (N':=["number","board"]) (ix:=[]) (xs0:=["number","board"]) ⟨rfl,rfl,by decide +kernel,by decide +kernel,by decide +kernel,(show ∀y:Str × NameKind,y∈_->y.2=NameKind.free->(jad jdS).names.lookup y.1=some .cell\/(jad jdS).names.lookup y.1=some .free from by decide +kernel),.nil⟩ (jbo (pv 5)) (fun _ _ _ _=>jdl (K:=K) (n:=2) rfl rfl (jay (jan (i:=0) (show (["number","board"]:List Str).Nodup from by decide +kernel) rfl (Or.inl rfl)) (jay (jan (i:=1) (show (["number","board"]:List Str).Nodup from by decide +kernel) rfl (Or.inl rfl)) jbb))) (fun _ _ _ _=>jaR) (fun _ _ _ _=>(pv 0))) (jaz _))))))
  (jai (jap jb6))
  jaA)
  (jae (jas (i:=9) S.nd rfl (Or.inl rfl) jbr)
  (ja3 lQ9 (jbE PassesOwn.never rfl (jbo (pv 5)) (jan (i:=10) S.nd rfl (Or.inl rfl))
  (jai (jas (i:=9) S.nd rfl (Or.inl rfl) (jah di hr.m rfl jat (jaa (pv 9) (jaa (pv 10) jac jag) jag)))))
  (jae (jaO (PW.pt (jds (jar (jcD (jgA hr)) (pv 9) (pv 8) (jaz _)) (jc6 (jar (jcD (jgA hr)) (jah Ds hr.m rfl jat (jaa (jaK ja6 rfl T.m_list boot_list (jaa (pv 5) jac jag)) jac jaN)) (pv 8) (jaz _)))))
  (jai (jap jb6))
  jaA)
  (jae (jas (i:=11) S.nd rfl (Or.inl rfl) jjd)
  (jae (jas (i:=12) S.nd rfl (Or.inl rfl) jjd)
  (ja3 lQ13 (jbE PassesOwn.never rfl (jbo (pv 5)) (jdt rfl (jay (jan (i:=13) S.nd rfl (Or.inl rfl)) (jay (jan (i:=14) S.nd rfl (Or.inl rfl)) jbb)))
  (jae (jcC (jav jif rfl T.m_len PySem.boot_len (jaa (pv 11) jac jag)) (jfY (pv 11) (pv 13) jhj))
  (jai (jcC (jah Dh hr.m rfl jat (jaa (pv 14) jac jag)) (jfY (pv 12) (pv 13) jhj)))))
  (jae (jaO (jb0 (jbB (jah dA hr.m rfl jat (jaa (pv 8) (jaa (pv 11) (jaa (pv 12) jac jag) jag) jag))))
  (jai (jap jb6))
  jaA)
  (jae (jas (i:=15) S.nd rfl (Or.inl rfl) (jah dw hr.m rfl jat (jaa (pv 8) jac jag)))
  (ja3 lQ16 (jaO (PW.pt (jds (jb0 (jbB (jav ja7 rfl T.m_isinstance boot_isinstance (jaa (pv 15) (jaa (jcB (v:=.ty "list") rfl T.m_list boot_list rfl) jac jag) jag)))) (jc6 (jar (jcD (jgA hr)) (pv 15) (jah db hr.m rfl jat (jaa (pv 8) jac jag)) (jaz _)))))
  (jai (jap jb6))
  jaA)
  (jae (jb7 (jiZ PySem.F.plainAttrs_list PySem.F.slot_list_reverse PySem.F.type_list_reverse jh7 (pv 15)))
  (jae (jb7 (jiZ PySem.F.plainAttrs_list PySem.F.slot_list_clear PySem.F.type_list_clear jkV (pv 15)))
  (jai (jap (jek (jdh (jf8 (jgA hr)) (jah dw hr.m rfl jat (jaa (pv 8) jac jag)) (jah db hr.m rfl jat (jaa (pv 8) jac jag)) (jaz _)) (jeV (jdh (jf8 (jgA hr)) (jah dX hr.m rfl jat (jaa (pv 7) (jaa (pv 6) jac jag) jag)) (pv 8) (jaz _))))))))))))))))))))))))),?_⟩
 walk_at "rf";refine⟨a,ns,6,rfl,ha,hn,by decide,by decide,fun cl H1 cs ncl s1 ecl l6=>?_⟩;have c0:cs[0]?=some cs[0]:=xab (by omega);have c5:cs[5]?=some cs[5]:=xab (by omega);refine ixL (SqL.of ecl) (i:=0) (v:=.int cs[0]) (jaI (j:=0) (by rw[xaf,c0];rfl)) ⟨cs[0],rfl,fun L H2 nL s2 b2=>⟨L,rfl,b2,fun H3 d s3 b3 d2 d4=>⟨d,rfl,cl,_,rfl,SqL.of (s3 _ _ (jax ecl nL) (s2 _ _ ecl)),fun p hp=>?_⟩⟩⟩;obtain⟨m,rfl⟩:=xbL (show 0<=d by omega);have ec:jeO (cs.map V.int) (some 1) (some (1+(m:Int)))=((cs.drop 1).take m).map V.int:=by
  exact jp5 (f:=1) (by omega) (by omega)
 rw[ec];have j:=Same.new hp (.lst (((cs.drop 1).take m).map V.int));have lm:((cs.drop 1).take m).length=m:=by rw[xau,xaC];omega
 refine⟨p,(cs.drop 1).take m,rfl,SqL.of jaf,by omega,fun t S R H5 zs s5 nS nR et hS hR=>⟨t,rfl,_,SqT.of et,rfl,_,_,rfl,_,_,rfl,rfl,?_⟩⟩;rw[lm] at hS;have ecl5:=s5 _ _ (j _ _ (s3 _ _ (jax ecl nL) (s2 _ _ ecl)));refine ixL (SqL.of ecl5) (i:=5) (v:=.int cs[5]) (jaI (j:=5) (by rw[xaf,c5];rfl)) ⟨cs[5],rfl,fun L2 H6 nL2 s6 b6=>?_⟩;obtain⟨rs,eS,aS,ob,lx,nd⟩:=hS;have SL2:S≠L2:=jax eS nL2;have lr:=aS.len;refine⟨S,L2,rs,rfl,s6 _ _ eS,fun r hr'=>?_,SL2,b6,by omega,fun M H7 rm nM s7 b7 eM pm=>?_⟩
 ·obtain⟨i,hi⟩:=xbG hr';obtain⟨x,_,hx⟩:=aS.getA hi;exact⟨x,hx.keep s6.t⟩
 have eS7:=s7 _ _ SL2 (s6 _ _ eS);have aS7:=(aS.keepP s6.t).keepP (b6.t s7);clear ecl5 aS eS hR et c0 c5 ec ha s1 s2 s3 s5 s6 s7 b2 b3 b6 b7 hp;obtain⟨xs,rfl,okd⟩:=jkq zs ob;obtain⟨ys,pm',aM⟩:=jkF pm (jhY aS7);have aM:=jkG aM;have lM:=aM.len;rw[xaa] at lx lr lM;have lxy:=pm'.length_eq;refine⟨M,rfl,⟨_,SqL.of eM⟩,fun W hW=>jhZ eM aM (by omega) hW fun J j2 e2=>?_⟩;have eS8:=j2 _ _ eS7;refine⟨S,rfl,_,.inl (SqL.of eS8),fun l hl=>?_⟩;have j3:=Same.new hl (.lst (rs.map V.ref));have s:=j2.trans j3;have ndx:(xs.map (·.1)).Nodup:=by rw[xaO] at nd;exact nd
 have ndy:(ys.map (·.1)).Nodup:=(pm'.map _).nodup_iff.mpr ndx;have B:B41 (upd J l (.lst (rs.map V.ref))) S M W l rs rm xs ys:=⟨s _ _ eS7,aS7.keepP s.t,s _ _ eM,aM.keepP s.t,j3 _ _ e2,jaf,okd,fun y hy=>pm'.mem_iff.mp hy,ndx,ndy,by omega,by omega⟩;generalize upd J l (.lst (rs.map V.ref))=H8 at B |-
 clear j3 s e2 eS8 j2 hl eM aM aS7 eS7 nM nL2 nL ndx ndy pm' pm;obtain⟨g1,g2,_⟩:=B.good;have eWm:∀{J:Hp},B41 J S M W l rs rm xs ys->J W=some (.lst (ys.map fun y=>V.int y.1)):=fun h=>by
  have:=h.eW
  rwa [xaO] at this
 refine⟨l,.ref W,rs,xs,ys,rfl,B.eD,B.aS,B.kx,B.ndx,by have:=B.ly;omega,B.sub,.inr ⟨W,rfl,eWm B⟩,fun t H9 s9 tt=>⟨?_,?_⟩⟩
 ·refine⟨t,grs ys,4,rfl,tt,by omega,g1,by decide,fun H10 s10=>⟨true,rfl,?_⟩⟩;rw[if_neg (by decide)];have B10:=B.keep (s9.trans s10);refine jgZ (n:=true) B10.eD B10.aS B10.eS B10.aS ⟨_,rfl,?_⟩;rw[if_neg (by decide)];refine⟨M,rfl,⟨_,SqL.of B10.eM⟩,fun acc hacc=>jhZ B10.eM B10.aM (by omega) hacc fun J j2 e2=>?_⟩;refine jfr (x:=ys.map (·.1)) (y:=ys.map (·.1)) (SqL.of (j2 _ _ B10.eW)) (SqL.of e2) ⟨_,rfl,?_⟩;rw[decide_eq_true rfl,if_neg (by decide)];exact⟨S,M,W,l,rs,rm,xs,ys,t,_,_,_,_,rfl,B10.keep j2,tt.keep (s10.trans j2).t⟩
 clear tt s9 B g1 g2 eWm;rintro σ1 H1 ⟨S,M,W,D,rs,rm,xs,ys,f,o0,o1,o2,o4,rfl,B,tf⟩;walk_at "rf";have lM:=B.aM.len;rw[xaa] at lM;have ly:=B.ly;refine⟨⟨_,SqL.of B.eM⟩,jbL (K:=K) (a:=M) (xs:=rm.map V.ref) (fun i σ Hh=>∃(t:V) (o10:Option V),σ=[o0,o1,o2,some (.ref S),o4,some (.ref M),some (.ref W),some (.ref D),some f,some t,o10,none,none,none,none,none]/\Same H1 Hh/\TrAt Hh t (grs (ys.take i))) ⟨_,_,rfl,Same.refl _,.nil⟩ (fun i σ Hh _ ⟨_,_,_,sx,_⟩=>sx.seq (SqL.of B.eM)) ?_ ?_,?_⟩
 ·rintro i w σ Hh hi ⟨t,o10,rfl,sx,tT⟩;rw[xaf] at hi;obtain⟨r,hr',rfl⟩:=xaD.mp hi;obtain⟨x,hx,hp⟩:=B.aM.getA hr';rw[xaf] at hx;obtain⟨y,hy,rfl⟩:=xaD.mp hx;have il:=(xag.mp hy).1;have ym:=xav hy;obtain⟨g1,g2⟩:=jff i (ys.take i) (by rw[xau];omega) (fun y hy=>B.ky y (xbi hy)) (by omega);walk_at "rf";refine⟨t,r,grs (ys.take i),i,y,rfl,tT,by omega,g1,by omega,hp.keep sx.t,B.ky y ym,fun t' H' s' tT'=>⟨sx.trans s',?_⟩⟩;rw[xaZ,hy];rw[show grs (List.take i ys++(some y).toList)=grT (grs (ys.take i)) y from jdI _ _];exact tT'
 ·rintro σ Hh ⟨t,o10,rfl,sx,tT⟩;rw[xaa,lM,xa3] at tT;exact⟨S,M,W,D,rs,rm,xs,ys,f,t,o0,o1,o2,o4,o10,rfl,B.keep sx,tf.keep sx.t,tT⟩
 clear B tf lM ly;rintro σ2 H2 ⟨S,M,W,D,rs,rm,xs,ys,f,t,o0,o1,o2,o4,o10,rfl,B,tf,tt⟩;walk_at "rf";have lM:=B.aM.len;rw[xaa] at lM;have ly:=B.ly;obtain⟨g1,g2,l8⟩:=B.good;refine jkE (n:=true) tt tf (by omega) ⟨_,rfl,?_⟩;rw[if_neg (by decide)];refine⟨_,.inl (SqL.of B.eM),fun l hl=>?_⟩;have j1:=Same.new hl (.lst (rm.map V.ref));refine⟨l,.non,rm,ys,ys,rfl,jaf,B.aM.keepP j1.t,B.ky,B.ndy,by omega,fun _ h=>h,.inl ⟨rfl,rfl⟩,fun t' H3 s3 tt'=>?_⟩;have s13:=j1.trans s3;refine jkE (n:=true) tt' (tf.keep s13.t) (by omega) ⟨_,rfl,?_⟩;rw[if_neg (by decide)];have B:=B.keep s13;have tf:=tf.keep s13.t;clear s13 j1 s3 tt' hl tt;walk_at "rf";intro dR hR dP hP;have RP:dR≠dP:=jax (show upd H3 dR (.dK []) dR=some _ from jaf) hP;have hP0:H3 dP=none:=by rw[jaC RP.symm] at hP;exact hP
 have j4:=(Same.new hR (.dK [])).trans (Same.new hP (.dK []));have eR0:upd (upd H3 dR (.dK [])) dP (.dK []) dR=some (.dK []):=by rw[jaC RP,jaf]
 have eP0:upd (upd H3 dR (.dK [])) dP (.dK []) dP=some (.dK []):=jaf;generalize upd (upd H3 dR (.dK [])) dP (.dK [])=H4 at j4 eR0 eP0 |-
 obtain⟨rk,hrk⟩:=jkH 0 ys (fun i _=>i) B.ndy;obtain⟨pl,hpl⟩:=jkH ⟨0,0,0,0⟩ ys (fun _ y=>plP (rgs y.2.1 y.2.2)) B.ndy;refine⟨⟨_,SqL.of (j4 _ _ B.eM)⟩,jbL (K:=K) (a:=M) (xs:=rm.map V.ref) (fun i σ Hh=>∃(o13 o14:Option V) (kR kP:List (Key × V)),σ=[o0,o1,o2,some (.ref S),o4,some (.ref M),some (.ref W),some (.ref D),some f,some t,o10,some (.ref dR),some (.ref dP),o13,o14,none]/\Same H3 Hh/\Hh dR=some (.dK kR)/\kR.length=i/\(∀(j:Nat) (y:Dsc),ys[j]?=some y->jeb kR (.inl y.1)=if j<i then some (.int (j:Nat)) else none)/\Hh dP=some (.dK kP)/\kP.length<=i/\∀(j:Nat) (y:Dsc),j<i->ys[j]?=some y->∃r,jeb kP (.inl y.1)=some (.ref r)/\Is4 Hh r (pl y.1)) ⟨_,_,[],[],rfl,j4,eR0,rfl,fun _ _ _=>(if_neg (xaR _)).symm,eP0,xae _,fun _ _ z=>absurd z (xaR _)⟩ (fun i σ Hh _ ⟨_,_,_,_,_,sx,_⟩=>sx.seq (SqL.of B.eM)) ?_ ?_,?_⟩
 ·rintro i w σ Hh hi ⟨o13,o14,kR,kP,rfl,sx,eR,lR,hkR,eP,lP,hkP⟩;rw[xaf] at hi;obtain⟨r,hr',rfl⟩:=xaD.mp hi;obtain⟨x,hx,b,e1,rs',eb,hs⟩:=B.aM.getA hr';rw[xaf] at hx;obtain⟨y,hy,rfl⟩:=xaD.mp hx;have il:=(xag.mp hy).1;have ym:=xav hy;have Dy:=B.ky y ym;walk_at "rf";refine⟨_,SqT.of (sx _ _ e1),rfl,_,_,rfl,_,_,rfl,rfl,?_⟩;have n0:jeb kR (.inl y.1)=none:=by rw[hkR i y hy,if_neg (xbh _)]
  refine⟨kR,eR,?_⟩;refine⟨_,rfl,_,rfl,dR,kR,.inl y.1,rfl,rfl,eR,jaF (by omega),?_⟩;rw[jhh _ n0];walk_at "rf";have sm:Same H3 (upd Hh dR (.dK (kR++[(.inl y.1,.int kR.length)]))):=fun c o h=>by rw[jaC (jax h hR)];exact sx c o h
  have epm:upd Hh dR (.dK (kR++[(.inl y.1,.int kR.length)])) dP=some (.dK kP):=by rw[jaC RP.symm];exact eP
  refine⟨b,rs',rgs y.2.1 y.2.2,rfl,.inr (sm _ _ eb),hs.keep sm.t,Dy.n3,fun p hp=>cg_of (Dy.c p hp),Dy.na,fun g Hn x0 y0 z0 v0 sn eg _ ep=>?_⟩;rw[Dy.pl.1] at ep;obtain⟨rfl,rfl,rfl,rfl⟩:x0=_/\y0=_/\z0=_/\v0=_:=by simpa using ep
  have enR:=sn _ _ (show upd Hh dR (.dK (kR++[(.inl y.1,.int kR.length)])) dR=some _ from jaf);have enP:=sn _ _ epm;refine⟨_,rfl,_,rfl,dP,kP,.inl y.1,rfl,rfl,enP,jaF (by omega),_,_,rfl,fun c o h=>?_,_,by rw[jaC RP];exact enR,by rw[xad,lR];rfl,fun j y2 h2=>?_,_,jaf,xaE (jdn _ _ _) (by omega),fun j y2 hj h2=>?_⟩
  ·rw[jaC (jax h hP0)];exact (sm.trans sn) c o h
  ·have r1:=hrk _ _ h2;have r2:=hrk _ _ hy;rw[jes _ _ _ _ n0,hkR j y2 h2,lR];by_cases c:y2.1=y.1
   ·have e:j=i:=by rw[c] at r1;omega
    rw[if_pos (by rw[c]),if_pos (by omega),e]
   ·have e:j≠i:=fun z=>by
     subst z;rw[hy] at h2;cases h2;exact c rfl
    rw[if_neg (fun z=>c (Sum.inl.inj z))];by_cases l:j<i
    ·rw[if_pos l,if_pos (by omega)]
    ·rw[if_neg l,if_neg (by omega)]
  ·rw[jk7];by_cases c:j=i
   ·subst c;rw[hy] at h2;cases h2;refine⟨g,if_pos rfl,?_⟩;rw[hpl _ _ hy];exact⟨by rw[jaC (fun z=>by rw[z,enP] at eg;cases eg)];exact eg,Dy.pl.2.sm⟩
   ·have r1:=hrk _ _ h2;have r2:=hrk _ _ hy;obtain⟨r',v',k'⟩:=hkP j y2 (by omega) h2;refine⟨r',?_,?_,k'.2⟩
    ·rw[if_neg (fun z=>by rw[Sum.inl.inj z] at r1;omega)];exact v'
    ·have k1:=sn r' _ (show upd Hh dR _ r'=some _ from by rw[jaC (fun z=>by have:=k'.1;rw[z,eR] at this;cases this)];exact k'.1);rw[jaC (fun z=>by rw[z,enP] at k1;cases k1)];exact k1
 ·rintro σ Hh ⟨o13,o14,kR,kP,rfl,sx,eR,lR,hkR,eP,lP,hkP⟩;rw[xaa,lM] at lR lP hkR hkP;obtain⟨od,pc⟩:=jkA (rk:=rk) (pl:=pl) B.ky (by omega) hrk (fun y hy=>let ⟨j,hj⟩:=xbG hy;hpl j y hj) ys.length (xae _);rw[xa3] at od pc;refine⟨S,M,W,D,dR,dP,rs,rm,xs,ys,f,o0,o1,o2,o4,_,_,_,_,rk,pl,rfl,B.keep sx,tf.keep sx.t,od,⟨kR,eR,fun x hx=>?_⟩,kP,eP,fun x hx=>?_⟩
  ·obtain⟨_,y,hy,e⟩:=pc x hx;obtain⟨j,hj⟩:=xbG hy;have:=(xag.mp hj).1;rw[e,hkR j y hj,if_pos this,hrk j y hj]
  ·obtain⟨_,y,hy,e⟩:=pc x hx;obtain⟨j,hj⟩:=xbG hy;have:=(xag.mp hj).1;rw[e];exact hkP j y this hj
 clear hrk hpl rk pl j4 eR0 eP0 hP0 hP RP hR B tf g1 g2 l8 lM ly;rintro σ5 H5 ⟨S,M,W,D,dR,dP,rs,rm,xs,ys,f,o0,o1,o2,o4,o9,o10,o13,o14,rk,pl,rfl,B,tf,od,dk⟩;walk_at "rf";obtain⟨g1,g2,l8⟩:=B.good;refine⟨f,dR,dP,grs ys,4,rk,pl,rfl,tf,⟨by omega,by omega⟩,g1,by decide,l8,od,dk,fun H6 s6=>⟨true,rfl,?_⟩⟩;rw[if_neg (by decide)];have B:=B.keep s6;have tf:=tf.keep s6.t;refine⟨f,grs ys,4,rfl,tf,by omega,g1,by decide,l8,fun T1 H7 r1 nT s7 e1 a1=>⟨?_,?_⟩⟩
 ·have B7:=B.keep s7;refine⟨_,.lst e1,true,rfl,?_⟩;rw[if_neg (by decide)];refine⟨f,grs ys,4,rfl,tf.keep s7.t,by omega,g1,by decide,l8,fun T2 H8 r2 n2 s8 e2 a2=>?_⟩;refine jgZ (n:=true) (s8 _ _ e1) (a1.keepP s8.t) e2 a2 ⟨_,rfl,?_⟩;rw[if_neg (by decide)];have la:=a1.len;exact⟨S,M,W,D,T1,rs,rm,r1,xs,ys,f,_,_,_,_,_,_,_,_,_,_,rfl,B7.keep s8,tf.keep (s7.trans s8).t,s8 _ _ e1,by omega,(jax B.eS nT).symm,(jax B.eM nT).symm,(jax B.eW nT).symm,(jax B.eD nT).symm⟩
 clear dk od e1 a1 nT s7 B tf s6 g1 g2 l8;rintro σ6 H6 ⟨S,M,W,D,T1,rs,rm,r1,xs,ys,f,o0,o1,o2,o4,o9,o10,o11,o12,o13,o14,rfl,B,tf,e1,l1,n1,n2,n3,n4⟩;walk_at "rf";obtain⟨g1,g2,l8⟩:=B.good;refine⟨.inl ⟨_,SqL.of e1⟩,T1,_,rfl,rfl,e1,.inl ⟨_,SqL.of jaf⟩,T1,_,rfl,rfl,jaf,?_⟩;have st:SameT H6 (upd (upd H6 T1 (.lst (r1.map V.ref).reverse)) T1 (.lst [])):=fun b vs hb=>by
  have nb:b≠T1:=fun z=>by rw[z,e1] at hb;cases hb
  rw[jaC nb,jaC nb];exact hb
 have ke:∀{b:Addr} {o:HO},T1≠b->H6 b=some o->upd (upd H6 T1 (.lst (r1.map V.ref).reverse)) T1 (.lst []) b=some o:=fun nb h=>by
  rw[jaC nb.symm,jaC nb.symm];exact h
 have B':B41 (upd (upd H6 T1 (.lst (r1.map V.ref).reverse)) T1 (.lst [])) S M W D rs rm xs ys:=⟨ke n1 B.eS,B.aS.keepP st,ke n2 B.eM,B.aM.keepP st,ke n3 B.eW,ke n4 B.eD,B.kx,B.sub,B.ndx,B.ndy,B.lx,B.ly⟩;have tf:=tf.keep st;generalize upd (upd H6 T1 (.lst (r1.map V.ref).reverse)) T1 (.lst [])=H7 at B' tf |-
 refine⟨f,grs ys,4,rfl,tf,by omega,g1,by decide,l8,fun l1 J1 q1 k1 s1 e1 a1=>⟨f,grs ys,4,rfl,tf.keep s1.t,by omega,g1,by decide,l8,fun l2 J2 q2 k2 s2 e2 a2=>jgZ (n:=false) (s2 _ _ e1) (a1.keepP s2.t) e2 a2 ⟨true,rfl,?_⟩⟩⟩;rw[if_pos rfl];have B2:=B'.keep (s1.trans s2);have ly:=B.ly;exact⟨D,.ref W,rs,xs,ys,rfl,B2.eD,B2.aS,B2.kx,B2.ndx,by omega,B2.sub,.inr ⟨W,rfl,by
  have:=B2.eW
  rwa [xaO] at this⟩,fun t J3 s3 tt=>jkE (n:=false) tt (tf.keep (s1.trans (s2.trans s3)).t) (by omega) (q _)⟩
end
@[elab_as_elim] theorem len1 {P:List Value->Prop} (us:List Value) (hl:us.length=1) (h:∀a,P [a]):P us:=by
  cases us with
  | nil=>exact absurd hl (by decide)
  | cons a r =>
    cases r with
    | nil=>exact h a
    | cons b r=>exact absurd (Nat.succ.inj hl) (Nat.succ_ne_zero _)
@[elab_as_elim] theorem len2 {P:List Value->Prop} (us:List Value) (hl:us.length=2) (h:∀a0 a1,P [a0,a1]):P us:=by
 cases us with
 | nil=>exact absurd hl (by decide)
 | cons a0 r=>exact len1 (P:=fun r=>P (a0::r)) r (Nat.succ.inj hl) fun a1=>h a0 a1
@[elab_as_elim] theorem len3 {P:List Value->Prop} (us:List Value) (hl:us.length=3) (h:∀a0 a1 a2,P [a0,a1,a2]):P us:=by
 cases us with
 | nil=>exact absurd hl (by decide)
 | cons a0 r=>exact len2 (P:=fun r=>P (a0::r)) r (Nat.succ.inj hl) fun a1 a2=>h a0 a1 a2
@[elab_as_elim] theorem len4 {P:List Value->Prop} (us:List Value) (hl:us.length=4) (h:∀a0 a1 a2 a3,P [a0,a1,a2,a3]):P us:=by
 cases us with
 | nil=>exact absurd hl (by decide)
 | cons a0 r=>exact len3 (P:=fun r=>P (a0::r)) r (Nat.succ.inj hl) fun a1 a2 a3=>h a0 a1 a2 a3
@[elab_as_elim] theorem len5 {P:List Value->Prop} (us:List Value) (hl:us.length=5) (h:∀a0 a1 a2 a3 a4,P [a0,a1,a2,a3,a4]):P us:=by
 cases us with
 | nil=>exact absurd hl (by decide)
 | cons a0 r=>exact len4 (P:=fun r=>P (a0::r)) r (Nat.succ.inj hl) fun a1 a2 a3 a4=>h a0 a1 a2 a3 a4
inductive AtK (K:PySem.W.Frag) (x:Str) (st:Stmt):Prop
 | mk (f:Addr) (oc kV dc pm cd ct:Value) (od an:Option Addr) (sl:Array (Option Value)) (a:PySem.W.nsIn K mainGlobals x=some (some (.ref f))) (l:K.lookup f=some ⟨oc,od,.func (PySem.W.fnOf x x (jbC st) (jbc st) (jad st) .none kV dc pm an cd ct),sl⟩) (c:PySem.W.codeIn K cd x=true) (k:PySem.W.keepIn K (.ref f)=true)
local macro_rules | `(tactic| walk_at "bn") => `(tactic| first | exact fun _ _ _ _ _ _ us hl => len1 us hl fun _ => rfl | exact fun _ _ _ _ _ _ us hl => len2 us hl fun _ _ => rfl | exact fun _ _ _ _ _ _ us hl => len3 us hl fun _ _ _ => rfl | exact fun _ _ _ _ _ _ us hl => len4 us hl fun _ _ _ _ => rfl | exact fun _ _ _ _ _ _ us hl => len5 us hl fun _ _ _ _ _ => rfl)
theorem AtK.go {K:PySem.W.Frag} {h:Heap} {mg:Str->Option Value} {x:Str} {st:Stmt} {ps:List Str} (H:AtK K x st) (X:K.In h) (G:h.Ns mainGlobals mg) (hb:∀(kV doc pm:Value) (an:Option Addr) (cdv ct:Value) (us:List Value),us.length=ps.length->bindArgs (PySem.W.fnOf x x (jbC st) (jbc st) (jad st) .none kV doc pm an cdv ct) ⟨us,[]⟩=pure (ps.zip us):=by walk_at "bn"):At K mg x st ps [] :=
 let ⟨_,_,_,_,_,_,_,_,_,_,a,l,c,k⟩:=H
 at_mk X G hb a l c k
variable {r L sd S M W D:Addr}
theorem jqk {l:PySem.W.OpenLaw} {w:World} {K:PySem.W.Frag} {h:Heap} {mg:Str->Option Value} {fa fF fG E:Addr} {t1 t2:Tok} {tD:Tok} (X:K.In h) (G:h.Ns mainGlobals mg) (hfa:mg "law"=some (.ref fa))
  {f51:Addr} {odF anF odG anG od51 an51:Option Addr} {slF slG sl51:Array (Option Value)} {ocF kVF dcF pmF cdF ctF ocG kVG dcG pmG cdG ctG oc51 kV51 dc51 pm51 cd51 ct51:Value} {oD:Obj} {nD:Nat} {oE:Obj} {nE:Nat}
  (aS0:PySem.W.nsIn K mainGlobals "SHORT_BITS"=some (some (.int 2000 t1)))
  (aS1:PySem.W.nsIn K mainGlobals "MOST_CORNERS"=some (some (.int 8 t2)))
  (aF:PySem.W.nsIn K mainGlobals "made_spot"=some (some (.ref fF))) (lF:K.lookup fF=some ⟨ocF,odF,.func (PySem.W.fnOf "made_spot" "made_spot" (jbC jbp) (jbc jbp) (jad jbp) (.ref D) kVF dcF pmF anF cdF ctF),slF⟩) (cF:PySem.W.codeIn K cdF "made_spot"=true) (kF:PySem.W.keepIn K (.ref fF)=true) (lD:K.lookup D=some oD) (hD:oD.data=.seq #[.int 1 tD] nD)
  (aG:PySem.W.nsIn K mainGlobals "tree_of"=some (some (.ref fG))) (lG:K.lookup fG=some ⟨ocG,odG,.func (PySem.W.fnOf "tree_of" "tree_of" (jbC jbx) (jbc jbx) (jad jbx) (.ref E) kVG dcG pmG anG cdG ctG),slG⟩) (cG:PySem.W.codeIn K cdG "tree_of"=true) (kG:PySem.W.keepIn K (.ref fG)=true) (lE:K.lookup E=some oE) (hE:oE.data=.seq #[.none] nE)
  (a0:AtK K "_law_cell_at" jca)
  (a1:AtK K "_law_folded" jby)
  (a2:AtK K "_law_state" jcJ)
  (a3:AtK K "_law_next" jdq)
  (a4:AtK K "_law_count" jcL)
  (a5:AtK K "_law_arrow" jbG)
  (a6:AtK K "_law_upright" jcb)
  (a7:AtK K "_law_raw" jci)
  (a8:AtK K "greatest_divisor" jbw)
  (a9:AtK K "in_lowest_terms" jaZ)
  (a10:AtK K "_law_corners" jaW)
  (a11:AtK K "without" jcG)
  (a12:AtK K "crossed" jew)
  (a13:AtK K "determinant" jcn)
  (a14:AtK K "minor_of" jdO)
  (a15:AtK K "in_line" jex)
  (a16:AtK K "rough_plane" jco)
  (a17:AtK K "made_plane" jcH)
  (a18:AtK K "is_plain" jdP)
  (a19:AtK K "turned_about" jbi)
  (a20:AtK K "plane_through" jbT)
  (a21:AtK K "sign_of" jev)
  (a22:AtK K "height_over" jcp)
  (a23:AtK K "side_of" jey)
  (a24:AtK K "flat_axis" jdo)
  (a25:AtK K "side_of_edge" jb9)
  (a26:AtK K "is_convex" jdp)
  (a27:AtK K "stands_first" jb8)
  (a28:AtK K "formed" jfz)
  (a29:AtK K "made_board" jcI)
  (a30:AtK K "_law_some" jdr)
  (a31:AtK K "_law_turned" jcr)
  (a32:AtK K "plane_of" jdQ)
  (a33:AtK K "edges_of" jch)
  (a34:AtK K "met_at" jfy)
  (a35:AtK K "sided_round" jcq)
  (a36:AtK K "cut_by" jbN)
  (a37:AtK K "grown_with" jbF)
  (a38:AtK K "grown_by" jdR)
  (a39:AtK K "_law_whole" jcK)
  (a40:AtK K "_law_is_spot" jbj)
  (a41:AtK K "_law_is_piece" ja8)
  (a42:AtK K "_law_is_tree" jaX)
  (a43:AtK K "_law_divisor" jcc)
  (a44:AtK K "_law_plane" jaH)
  (a45:AtK K "_law_height" jcs)
  (a46:AtK K "_law_lies" jbV)
  (a47:AtK K "_law_pieces" jbz)
  (a48:AtK K "_law_sided" jbH)
  (a49:AtK K "_law_in_order" jaE)
  (a50:AtK K "pieces_of" jbU)
  (a51:PySem.W.nsIn K mainGlobals "law"=some (some (.ref f51))) (l51:K.lookup f51=some ⟨oc51,od51,.func (PySem.W.fnOf "law" "law" (jbC jdS) (jbc jdS) (jad jdS) .none kV51 dc51 pm51 an51 cd51 ct51),sl51⟩) (c51:PySem.W.codeIn K cd51 "law"=true) (k51:PySem.W.keepIn K (.ref f51)=true)
  (z0:PySem.W.nsIn K mainGlobals "sum"=some none) (z1:PySem.W.nsIn K mainGlobals "dict"=some none) (z2:PySem.W.nsIn K mainGlobals "set"=some none) (z3:PySem.W.nsIn K mainGlobals "sorted"=some none) (z4:PySem.W.nsIn K mainGlobals "all"=some none) (z5:PySem.W.nsIn K mainGlobals "isinstance"=some none) (z6:PySem.W.nsIn K mainGlobals "bool"=some none) (z7:PySem.W.nsIn K mainGlobals "int"=some none) (z8:PySem.W.nsIn K mainGlobals "abs"=some none) (z9:PySem.W.nsIn K mainGlobals "max"=some none) (z10:PySem.W.nsIn K mainGlobals "min"=some none) (z11:PySem.W.nsIn K mainGlobals "len"=some none) (z12:PySem.W.nsIn K mainGlobals "range"=some none) (z13:PySem.W.nsIn K mainGlobals "tuple"=some none) (z14:PySem.W.nsIn K mainGlobals "list"=some none) (z15:PySem.W.nsIn K mainGlobals "reversed"=some none) :
  ∃fd:FuncData,(∀(s:Shared) (v:Value),BindsTo s fd ⟨[v],[]⟩ [("script",v)])/\∀base:Heap,K.In base->base.Ns mainGlobals mg->FnOk l.prog w K mg base CX0 24 fa fd ["script"] (jll K):=by
 have e:=hfa.symm.trans (PySem.W.mg_of X G a51);cases e;have T:Tx K mg t1 t2:=⟨PySem.W.mg_none_of X G z0,PySem.W.mg_none_of X G z1,PySem.W.mg_none_of X G z2,PySem.W.mg_none_of X G z3,PySem.W.mg_none_of X G z4,PySem.W.mg_none_of X G z5,PySem.W.mg_none_of X G z6,PySem.W.mg_none_of X G z7,PySem.W.mg_none_of X G z8,PySem.W.mg_none_of X G z9,PySem.W.mg_none_of X G z10,PySem.W.mg_none_of X G z11,PySem.W.mg_none_of X G z12,PySem.W.mg_none_of X G z13,PySem.W.mg_none_of X G z14,PySem.W.mg_none_of X G z15,PySem.W.mg_of X G aS0,PySem.W.mg_of X G aS1⟩;have AF:At K mg "made_spot" jbp ["x","y","z","w"] []:=jg7 (ds:=[]) X G (fun _ _ _ _ _ _ us hl=>match us,hl with | [_,_,_,_],_=>⟨_,rfl,rfl⟩) aF lF cF kF lD hD .nil;have AF1:At K mg "made_spot" jbp ["x","y","z","w"] [.int 1]:=jg7 (ds:=[.int 1 tD]) X G (fun _ _ _ _ _ _ us hl=>by
  rw[xad] at hl;have hl2:us.length=3:=by simpa using hl
  match us,hl2 with
  | [u0,u1,u2],_=>exact⟨_,rfl,rfl⟩) aF lF cF kF lD hD (.cons ⟨_,rfl⟩ .nil)
 have AG:At K mg "tree_of" jbx ["some","row"] []:=jg7 (ds:=[]) X G (fun _ _ _ _ _ _ us hl=>match us,hl with | [_,_],_=>⟨_,rfl,rfl⟩) aG lG cG kG lE hE .nil;have AG1:At K mg "tree_of" jbx ["some","row"] [.non]:=jg7 (ds:=[.none]) X G (fun _ _ _ _ _ _ us hl=>by
  rw[xad] at hl;have hl2:us.length=1:=by simpa using hl
  match us,hl2 with
  | [u0],_=>exact⟨_,rfl,rfl⟩) aG lG cG kG lE hE (.cons rfl .nil)
 have FL:=jgI (st:=jdS) l51 c51 k51;refine⟨PySem.W.fnOf "law" "law" (jbC jdS) (jbc jdS) (jad jdS) .none kV51 dc51 pm51 an51 cd51 ct51,fun s v=>.of_eq rfl,fun base _ _=>?_⟩;have D0:=jnV (P:=l.prog) (w:=w) (base:=base) T (a0.go X G);have D1:=jnW (P:=l.prog) (w:=w) (base:=base) T (a1.go X G) D0;have D2:=jpI (P:=l.prog) (w:=w) (base:=base) T (a2.go X G);have D3:=ok_nx (P:=l.prog) (w:=w) (base:=base) T (a3.go X G);have D4:=jlT (P:=l.prog) (w:=w) (base:=base) T (a4.go X G) D3;have D5:=jpN (P:=l.prog) (w:=w) (base:=base) T (a5.go X G) D3;have D6:=jpJ (P:=l.prog) (w:=w) (base:=base) T (a6.go X G);have D7:=jpR (P:=l.prog) (w:=w) (base:=base) T (a7.go X G) D3 D5 D6;have D8:=ok_gd (P:=l.prog) (w:=w) (base:=base) T (a8.go X G);have D9:=jo9 (P:=l.prog) (w:=w) (base:=base) T (a9.go X G) D8;have D10:=jpm (P:=l.prog) (w:=w) (base:=base) T AF D9;have D11:=jn2 (P:=l.prog) (w:=w) (base:=base) T (a10.go X G) D10;have D12:=jiq (P:=l.prog) (w:=w) (base:=base) T (a11.go X G);have D13:=jip (P:=l.prog) (w:=w) (base:=base) T (a12.go X G);have D14:=jpa (P:=l.prog) (w:=w) (base:=base) T (a13.go X G) D13;have D15:=jlm (P:=l.prog) (w:=w) (base:=base) T (a14.go X G) D12 D14;have D16:=jnl (P:=l.prog) (w:=w) (base:=base) T (a15.go X G) D15;have D17:=jlp (P:=l.prog) (w:=w) (base:=base) T (a16.go X G) D15;have D18:=jlq (P:=l.prog) (w:=w) (base:=base) T (a17.go X G) D9;have D19:=jlo (P:=l.prog) (w:=w) (base:=base) T (a18.go X G);have D20:=jjw (P:=l.prog) (w:=w) (base:=base) T (a19.go X G);have D21:=jir (P:=l.prog) (w:=w) (base:=base) T (a20.go X G) D17 D18 D19 D20;have D22:=jnm (P:=l.prog) (w:=w) (base:=base) T (a21.go X G);have D23:=ok_ht (P:=l.prog) (w:=w) (base:=base) T (a22.go X G);have D24:=jnn (P:=l.prog) (w:=w) (base:=base) T (a23.go X G) D22 D23;have D25:=jno (P:=l.prog) (w:=w) (base:=base) T (a24.go X G);have D26:=jnp (P:=l.prog) (w:=w) (base:=base) T (a25.go X G) D22 D15;have D27:=jpb (P:=l.prog) (w:=w) (base:=base) T (a26.go X G) D26;have D28:=jlr (P:=l.prog) (w:=w) (base:=base) T (a27.go X G);have D29:=jjx (P:=l.prog) (w:=w) (base:=base) T (a28.go X G) D28;have D30:=jlt (P:=l.prog) (w:=w) (base:=base) T (a29.go X G) D16 D21 D24 D25 D27 D29;have D31:=jn9 (P:=l.prog) (w:=w) (base:=base) T (a30.go X G) D2 D7 D3 D11 D30;have D32:=jlX (P:=l.prog) (w:=w) (base:=base) T (a31.go X G) D3;have D33:=jis (P:=l.prog) (w:=w) (base:=base) T (a32.go X G) D21;have D34:=jlx (P:=l.prog) (w:=w) (base:=base) T (a33.go X G);have D35:=jpo (P:=l.prog) (w:=w) (base:=base) T (a34.go X G) D23 D10;have D36:=jlB (P:=l.prog) (w:=w) (base:=base) T (a35.go X G) D34 D24 D35;have D37:=jnv (P:=l.prog) (w:=w) (base:=base) T (a36.go X G) D24 D36 D29;have D38:=ok_gx (P:=l.prog) (w:=w) (base:=base) T (a37.go X G) D37;have D39:=jp6 (P:=l.prog) (w:=w) (base:=base) T (a38.go X G) D33 D38;have D40:=ok_to (P:=l.prog) (w:=w) (base:=base) T AG D39;have D41:=jp9 (P:=l.prog) (w:=w) (base:=base) T AG1 D39;have D42:=ok_wh (P:=l.prog) (w:=w) (base:=base) T (a39.go X G);have D43:=ok_is (P:=l.prog) (w:=w) (base:=base) T (a40.go X G) D42;have D44:=ok_ip (P:=l.prog) (w:=w) (base:=base) T (a41.go X G) D42 D43;have D45:=ok_it (P:=l.prog) (w:=w) (base:=base) T (a42.go X G) D43 D44;have D46:=jpX (P:=l.prog) (w:=w) (base:=base) T (a43.go X G);have D47:=jp2 (P:=l.prog) (w:=w) (base:=base) T (a44.go X G) D6 D46;have D48:=ok_hg (P:=l.prog) (w:=w) (base:=base) T (a45.go X G);have D49:=jon (P:=l.prog) (w:=w) (base:=base) T (a46.go X G) D48;have D50:=jqd (P:=l.prog) (w:=w) (base:=base) T (a47.go X G);have D51:=joo (P:=l.prog) (w:=w) (base:=base) T (a48.go X G) D48;have D52:=ok_io (P:=l.prog) (w:=w) (base:=base) T (a49.go X G) D49 D50 D51;have D53:=jqc (P:=l.prog) (w:=w) (base:=base) T (a50.go X G);exact jqj T FL D1 D2 D4 D31 D32 D40 D41 D39 D45 D47 D52 D53 D50
theorem walk {l:PySem.W.OpenLaw} {q:Program} {loose:List Str} {XP:(Str->Option Value)->Heap->Prop} {YP:World->Heap->Prop} {d:DefRec} {K:Params->PySem.W.Frag} (hn:l.most=some 63) (hdf:d.params.defaults=[])
  (hY:∀(w:World) (h:Heap),YP w h->(K w.params).In h)
  (F:∀(w:World) (mg:Str->Option Value) (fa:Addr) (h:Heap),(K w.params).In h->h.Ns mainGlobals mg->mg d.name=some (.ref fa) ->
   ∃fd:FuncData,(∀(s:Shared) (u:Value),BindsTo s fd ⟨[u],[]⟩ [("script",u)])/\∀base:Heap,(K w.params).In base->base.Ns mainGlobals mg->FnOk l.prog w (K w.params) mg base CX0 24 fa fd ["script"] (jll (K w.params))) :
  PySem.W.WalkO q loose XP YP l.row.toRowW d [] (fun f vs=>PySem.call f vs) :=
 L2.jm6 (n:=63) (k:=24) (x:="script") (CX:=fun _=>CX0) (sp:=fun w=>jll (K w.params)) hn (by decide) hdf ⟨rfl,by decide,by decide⟩ hY F (fun _ _ a ns hl _ hS=>⟨a,ns,rfl,hS,hl,fun _=>rfl⟩) fun _ _ _ _ _ z=>z
end My
namespace PySem.W.Fast
def tw10070865179751418052:=0
def tw1018288004507993238:=0
def tw10246133216753050458:=0
def tw10246357488208217037:=0
def tw10251592116188623309:=0
def tw10520449497845462715:=0
def tw10524353761754122120:=0
def tw10533918728727738490:=0
def tw10618178317500553237:=0
def tw10742320288982783203:=0
def tw10785292404331092501:=0
def tw10816355432381894020:=0
def tw1082553666625279641:=0
def tw10889079437733129925:=0
def tw1091003364177106363:=0
def tw11029656931826913164:=0
def tw11226370292276241692:=0
def tw11256903411318025797:=0
def tw11261999849545057715:=0
def tw11282637544207395927:=0
def tw11285362160583625993:=0
def tw11378476543788726295:=0
def tw11391875421951324437:=0
def tw11427251950387600488:=0
def tw114375822819690456:=0
def tw11480310149030563591:=0
def tw11502528332594184186:=0
def tw11526214963069778866:=0
def tw11576214268346178976:=0
def tw11638406349629992419:=0
def tw1163891215977587380:=0
def tw11770878062343583491:=0
def tw1187354201558232641:=0
def tw12144010734704147470:=0
def tw12164963917393321520:=0
def tw12286092399882808006:=0
def tw12416075451891781565:=0
def tw12436139870876980637:=0
def tw12444151176049889660:=0
def tw12468751566770102429:=0
def tw12557759892797172985:=0
def tw12633079931328574863:=0
def tw12828585942394246384:=0
def tw12894060986964995613:=0
def tw1326792400952668051:=0
def tw13287868191324851836:=0
def tw13291702834090747696:=0
def tw13331699739857044944:=0
def tw13394899193700305917:=0
def tw13434268602370002166:=0
def tw1366172540052266720:=0
def tw13852676168684938804:=0
def tw13941896850936640269:=0
def tw13968948530499572031:=0
def tw14003834774441347648:=0
def tw1409274648526820444:=0
def tw14198172964033676012:=0
def tw14226550501251534788:=0
def tw14277961396374881133:=0
def tw14381929154927687598:=0
def tw14465795822088877018:=0
def tw1463091556070297569:=0
def tw14641083846375641137:=0
def tw14732674058066481467:=0
def tw14736283628629008435:=0
def tw14926506201980842370:=0
def tw15121910958362298205:=0
def tw15449965562341982519:=0
def tw15584568206170463630:=0
def tw15634552541887490177:=0
def tw15638561982041800276:=0
def tw15640830715918612055:=0
def tw15670174481903707712:=0
def tw15714965858470438237:=0
def tw15871300694481722272:=0
def tw15885669609379150809:=0
def tw15985957701654974566:=0
def tw16045635998203289132:=0
def tw16052060796946786926:=0
def tw16161260679652783537:=0
def tw16260872569578938763:=0
def tw16405688714244239232:=0
def tw16417249166731018078:=0
def tw16454899466104902297:=0
def tw16617517361414994230:=0
def tw16721283984178056145:=0
def tw16752273987427801379:=0
def tw16759424410958861540:=0
def tw16884805605183246020:=0
def tw16947319448106352129:=0
def tw17036779625779716257:=0
def tw17083920355844066981:=0
def tw17131838643622863286:=0
def tw17207721380579689293:=0
def tw1724080329622022250:=0
def tw17269289931578859103:=0
def tw17388658701119327498:=0
def tw17455474225351991473:=0
def tw17520104963863512765:=0
def tw17542866538388807383:=0
def tw17601137458012783506:=0
def tw17713289986082637169:=0
def tw17760859065274940627:=0
def tw17792070075336763284:=0
def tw17855273696478302453:=0
def tw17876343590511919818:=0
def tw17933559440868260911:=0
def tw17947073781501907549:=0
def tw17951006356431929722:=0
def tw17970605924544379213:=0
def tw18047298935389887386:=0
def tw18090009728956254678:=0
def tw18106261068600898606:=0
def tw18140669491423502062:=0
def tw18150807502349245115:=0
def tw18316991754217670623:=0
def tw18397430394284583063:=0
def tw1984938257202467947:=0
def tw2009003212995044429:=0
def tw2185385369705604692:=0
def tw2297407468808567597:=0
def tw2308782303977638053:=0
def tw2465706833944573657:=0
def tw2509310129424944756:=0
def tw2628621195864494777:=0
def tw2653569012622361857:=0
def tw2722138383069339177:=0
def tw2885078663707035579:=0
def tw2910944318712710022:=0
def tw295849482984362738:=0
def tw3004283718515033548:=0
def tw3031300399429014654:=0
def tw3043684300209050708:=0
def tw3061801224402591655:=0
def tw3110334832486280709:=0
def tw3170957149877774502:=0
def tw3226801066406717836:=0
def tw336361391408258813:=0
def tw3376095072317574298:=0
def tw3456313875235502676:=0
def tw3571367396642345787:=0
def tw3615284091181101545:=0
def tw3645174048707771138:=0
def tw3660208032477451203:=0
def tw3719143251326212546:=0
def tw3751021136801068342:=0
def tw3942910882382827921:=0
def tw4006772989364162395:=0
def tw4016390938173194013:=0
def tw4118274595260939090:=0
def tw4198212599388767298:=0
def tw4227707956036045561:=0
def tw4228658690884026650:=0
def tw4262666247687571292:=0
def tw4291223283094833278:=0
def tw4408369620993888820:=0
def tw4458203646566483895:=0
def tw4464933768685676952:=0
def tw4502938160599048284:=0
def tw4510445410921826655:=0
def tw4541655447394791932:=0
def tw4638049193143935333:=0
def tw4683489736101096515:=0
def tw4724209677954483209:=0
def tw4771311252255589159:=0
def tw5094725473541256009:=0
def tw5183398959283688604:=0
def tw5310061094468556735:=0
def tw531959189676994885:=0
def tw535917377296022263:=0
def tw5405897653594126873:=0
def tw5520530513074944719:=0
def tw5728987955785570016:=0
def tw5763660558451080668:=0
def tw5801810257947316470:=0
def tw5883393934919290443:=0
def tw6009084196075600296:=0
def tw604603922442750319:=0
def tw6070960914935185781:=0
def tw6084968095321955385:=0
def tw6175122073904685080:=0
def tw6281402660372767659:=0
def tw628740757202661141:=0
def tw6309127013408917014:=0
def tw6332339629356420585:=0
def tw6384447418349306368:=0
def tw6454918284599595339:=0
def tw6510487549713872474:=0
def tw6537878736157969670:=0
def tw6556672700526492934:=0
def tw6621226348396074416:=0
def tw6635049453684541024:=0
def tw6639858015463460297:=0
def tw6731653869158644287:=0
def tw6802401626640081690:=0
def tw6832149563454830229:=0
def tw6836269140435765165:=0
def tw693442571428489503:=0
def tw6976775317707034749:=0
def tw6977833296742256265:=0
def tw6981166198115986726:=0
def tw7126166051368772740:=0
def tw7193351822604293286:=0
def tw7205820239371091612:=0
def tw7385576157530712520:=0
def tw7436647612154418718:=0
def tw7454478141688329501:=0
def tw7495583884819122068:=0
def tw7649915644883359258:=0
def tw7822644721227042851:=0
def tw8023050701068459242:=0
def tw8073964043082810158:=0
def tw8124194888299671617:=0
def tw8142160433612011188:=0
def tw814660044647906848:=0
def tw8163094438048552920:=0
def tw820605552157951148:=0
def tw8207907092617164649:=0
def tw8218801794434087176:=0
def tw8237262789238323147:=0
def tw8393139588684006983:=0
def tw8469595099710305050:=0
def tw8524382162288795049:=0
def tw8563331193292883212:=0
def tw859371382437010590:=0
def tw8596248122251161383:=0
def tw8682116070044524843:=0
def tw869970839746802660:=0
def tw9015494935515568307:=0
def tw9043880390277711755:=0
def tw9119873734043133498:=0
def tw9164520566081976357:=0
def tw9207397493057558380:=0
def tw9252511446279715094:=0
def tw9296709071814357411:=0
def tw9362194950890644096:=0
def tw9427291602493930748:=0
def tw9437661110777693499:=0
def tw9448377354520920548:=0
def tw9488992626454971040:=0
def tw9610647097512973880:=0
def tw9623648475062127793:=0
def tw969100314570644549:=0
def tw9732406771814144319:=0
def tw9771996216994167454:=0
def tw9815685161944088650:=0
def tw9832579453894599563:=0
def tw9847864112116555408:=0
def tw9890557581893655029:=0
def tw9903226170240552834:=0
def tw9946012424522401951:=0
def tw9992345011277554567:=0
end PySem.W.Fast
open PySem PySem.W PyProof.Rows
set_option maxRecDepth 100000 in
set_option maxHeartbeats 0 in
theorem PySem.Challenge.cw_boardsight_k41_grown_one_by_one_holds : PySem.Challenge.rw_boardsight_k41_grown_one_by_one.Holds := by
  w_on;o_law;k_head;(case hw=>w_witness2)
  k_fill
  refine My.walk (l:=PySem.Challenge.rw_boardsight_k41_grown_one_by_one) rfl rfl (fun w h Y=>PySem.W.kIn_of Y) ?F
  case F =>
    intro w mg fa h KX G hmg
    refine' My.jqk KX G hmg ?aS0 ?aS1 ?aF ?lF ?cF ?kF ?lD ?hD ?aG ?lG ?cG ?kG ?lE ?hE ?a0 ?a1 ?a2 ?a3 ?a4 ?a5 ?a6 ?a7 ?a8 ?a9 ?a10 ?a11 ?a12 ?a13 ?a14 ?a15 ?a16 ?a17 ?a18 ?a19 ?a20 ?a21 ?a22 ?a23 ?a24 ?a25 ?a26 ?a27 ?a28 ?a29 ?a30 ?a31 ?a32 ?a33 ?a34 ?a35 ?a36 ?a37 ?a38 ?a39 ?a40 ?a41 ?a42 ?a43 ?a44 ?a45 ?a46 ?a47 ?a48 ?a49 ?a50 ?a51 ?l51 ?c51 ?k51 ?z0 ?z1 ?z2 ?z3 ?z4 ?z5 ?z6 ?z7 ?z8 ?z9 ?z10 ?z11 ?z12 ?z13 ?z14 ?z15
    (case aS0=>k_is)
    (case aS1=>k_is)
    (case aF=>k_is)
    (case lF=>k_is)
    (case cF=>k_is)
    (case kF=>k_is)
    (case lD=>k_is)
    (case hD=>first | rfl | k_is)
    (case aG=>k_is)
    (case lG=>k_is)
    (case cG=>k_is)
    (case kG=>k_is)
    (case lE=>k_is)
    (case hE=>first | rfl | k_is)
    (case a51=>k_is)
    (case l51=>k_is)
    (case c51=>k_is)
    (case k51=>k_is)
    (case z0=>k_is)
    (case z1=>k_is)
    (case z2=>k_is)
    (case z3=>k_is)
    (case z4=>k_is)
    (case z5=>k_is)
    (case z6=>k_is)
    (case z7=>k_is)
    (case z8=>k_is)
    (case z9=>k_is)
    (case z10=>k_is)
    (case z11=>k_is)
    (case z12=>k_is)
    (case z13=>k_is)
    (case z14=>k_is)
    (case z15=>k_is)
    all_goals (apply My.AtK.mk;k_is;k_is;k_is;k_is)
