package queue

import (
	"math/rand"
	"slices"
	"testing"

	"taxirank/api"
)

func made(t *testing.T, most int) *Queue {
	t.Helper()
	q, e := New(most)
	if e != api.OK {
		t.Fatal(most, e)
	}
	return q
}

// Q1: how many may wait.
func TestNew(t *testing.T) {
	for most, want := range map[int]api.Errno{1: api.OK, 1000: api.OK, 0: api.ErrArg, -1: api.ErrArg, 1001: api.ErrArg} {
		if q, e := New(most); e != want || (q == nil) != (e != api.OK) {
			t.Error(most, q, e)
		}
	}
	q := made(t, 1000)
	for i := range 1000 {
		if e := q.Join(-i, i); e != api.OK {
			t.Fatal(i, e)
		}
	}
	if e := q.Join(1, 0); e != api.ErrFull {
		t.Error(e)
	}
}

// Q1: who joins waits behind all; who waits does not join; a full queue takes nobody.
func TestJoin(t *testing.T) {
	q := made(t, 2)
	if id, ok := q.First(); id != 0 || ok || len(q.List()) != 0 {
		t.Error(id, ok, q.List())
	}
	for _, c := range []struct {
		id int
		e  api.Errno
	}{{5, api.OK}, {5, api.ErrState}, {0, api.OK}, {7, api.ErrFull}, {5, api.ErrState}} {
		if e := q.Join(c.id, 3); e != c.e {
			t.Error(c.id, e)
		}
	}
	if id, ok := q.First(); id != 5 || !ok || !slices.Equal(q.List(), []int{5, 0}) {
		t.Error(id, ok, q.List())
	}
}

// Q2: who leaves waits no more, and may join again, behind all.
func TestLeave(t *testing.T) {
	q := made(t, 3)
	for _, id := range []int{5, 3, 4} {
		q.Join(id, 1)
	}
	if !q.Leave(5) || q.Leave(5) || q.Leave(9) {
		t.Error(q.List())
	}
	if id, ok := q.First(); id != 3 || !ok {
		t.Error(id, ok)
	}
	if e := q.Join(5, 2); e != api.OK || !slices.Equal(q.List(), []int{3, 4, 5}) {
		t.Error(e, q.List())
	}
	if !q.Leave(4) || !slices.Equal(q.List(), []int{3, 5}) {
		t.Error(q.List())
	}
}

// Q2: who waits too long waits no more.
func TestExpire(t *testing.T) {
	q := made(t, 10)
	q.Join(1, 5)
	q.Join(2, 3)
	q.Join(3, 6)
	q.Join(4, 5)
	for _, wait := range []int{0, -1, 5} {
		if got := q.Expire(7, wait); len(got) != 0 || len(q.List()) != 4 {
			t.Error(wait, got, q.List())
		}
	}
	if got := q.Expire(7, 2); !slices.Equal(got, []int{1, 2, 4}) || !slices.Equal(q.List(), []int{3}) {
		t.Error(got, q.List())
	}
	if e := q.Join(2, 7); e != api.OK {
		t.Error(e)
	}
	if got := q.Expire(7, 1); !slices.Equal(got, []int{3}) || !slices.Equal(q.List(), []int{2}) {
		t.Error(got, q.List())
	}
	if got := q.Expire(1<<30, 1<<30); len(got) != 0 {
		t.Error(got)
	}
	if got := q.Expire(1<<30, 1<<30-7); !slices.Equal(got, []int{2}) || len(q.List()) != 0 {
		t.Error(got)
	}
	q.Join(1, -1<<63)
	q.Expire(1<<63-1, 1)
}

// P3: what is answered is new.
func TestNewLists(t *testing.T) {
	q := made(t, 10)
	q.Join(1, 0)
	q.Join(2, 0)
	q.List()[0] = 9
	_ = append(q.List()[:1], 9)
	if !slices.Equal(q.List(), []int{1, 2}) {
		t.Error(q.List())
	}
}

// Q3: whoever joined first is first, as long as it waits.
func TestOrder(t *testing.T) {
	r := rand.New(rand.NewSource(1))
	q := made(t, 6)
	type one struct{ id, since int }
	var want []one
	for now := range 20000 {
		id := r.Intn(9)
		at := slices.IndexFunc(want, func(o one) bool { return o.id == id })
		switch r.Intn(4) {
		case 0, 1:
			e := q.Join(id, now)
			if (e == api.ErrState) != (at >= 0) || (e == api.ErrFull) != (at < 0 && len(want) == 6) {
				t.Fatal(e, want)
			}
			if e == api.OK {
				want = append(want, one{id, now})
			}
		case 2:
			if q.Leave(id) != (at >= 0) {
				t.Fatal(id, want)
			}
			if at >= 0 {
				want = slices.Delete(want, at, at+1)
			}
		default:
			var late []int
			want = slices.DeleteFunc(want, func(o one) bool {
				if now-o.since >= 12 {
					late = append(late, o.id)
				}
				return now-o.since >= 12
			})
			if got := q.Expire(now, 12); !slices.Equal(got, late) {
				t.Fatal(got, late)
			}
		}
		first, ok := q.First()
		if ok != (len(want) > 0) || ok && first != want[0].id || len(q.List()) != len(want) {
			t.Fatal(first, ok, want)
		}
	}
}
