import unittest

from farhold.errors import NoLetter
from farhold.posts import Post
from helper import SIXTY


def filled(many):
    post = Post()
    for number in range(1, many + 1):
        post.put("hold", number, number + 1, ((0, number), 5))
    return post


class PostTest(unittest.TestCase):
    def no_letter(self, post, n):
        ahead = post.letters()
        with self.assertRaises(NoLetter):
            post.taken(n)
        self.assertEqual(post.letters(), ahead)

    def test_a_new_post_is_empty(self):
        self.assertEqual(Post().letters(), [])
        self.assertIs(type(Post().letters()), list)

    def test_numbers_from_one_on(self):
        post = Post()
        numbers = [post.put("back", 0, 1, ((1, 0), 2)) for again in range(12)]
        self.assertEqual(numbers, list(range(1, 13)))
        self.assertEqual({type(number) for number in numbers}, {int})

    def test_numbers_go_on_behind_letters_taken(self):
        post = filled(3)
        post.taken(3)
        self.assertEqual(post.put("hold", 0, 1, ()), 4)
        for number in (1, 2, 4):
            post.taken(number)
        self.assertEqual(post.letters(), [])
        self.assertEqual(post.put("hold", 0, 1, ()), 5)
        self.assertEqual(post.letters(), [(5, "hold", 0, 1, ())])

    def test_a_letter_is_told_whole(self):
        post = Post()
        post.put("pass", 3, 4, ((4, 7), 2))
        self.assertEqual(post.letters(), [(1, "pass", 3, 4, ((4, 7), 2))])
        self.assertIs(type(post.letters()[0]), tuple)
        letter = post.taken(1)
        self.assertEqual(letter, (1, "pass", 3, 4, ((4, 7), 2)))
        self.assertIs(type(letter), tuple)

    def test_told_in_the_order_of_their_numbers(self):
        post = filled(12)
        for number in (10, 1, 5):
            post.taken(number)
        post.put("hold", 0, 0, ())
        self.assertEqual([letter[0] for letter in post.letters()], [2, 3, 4, 6, 7, 8, 9, 11, 12, 13])

    def test_taken_in_any_order(self):
        post = filled(4)
        for number, left in ((2, [1, 3, 4]), (4, [1, 3]), (1, [3]), (3, [])):
            self.assertEqual(post.taken(number), (number, "hold", number, number + 1, ((0, number), 5)))
            self.assertEqual([letter[0] for letter in post.letters()], left)

    def test_letters_that_are_alike_are_two(self):
        post = Post()
        post.put("more", 1, 2, ((1, 1), 3))
        post.put("more", 1, 2, ((1, 1), 3))
        post.taken(1)
        self.assertEqual(post.letters(), [(2, "more", 1, 2, ((1, 1), 3))])

    def test_no_letter(self):
        post = filled(3)
        post.taken(2)
        for n in (0, -1, -3, 2, 4, 5, SIXTY, -SIXTY):
            self.no_letter(post, n)
        self.no_letter(Post(), 0)
        self.no_letter(Post(), 1)

    def test_a_refusal_uses_no_number(self):
        post = filled(1)
        self.no_letter(post, 2)
        self.assertEqual(post.put("hold", 0, 0, ()), 2)

    def test_looks_at_nothing_of_what_is_put_in(self):
        post = Post()
        abouts = [(), ((0, 0), SIXTY), (1, 2), (((0, 1), (0, 2)),), ([], {})]
        for number, about in enumerate(abouts, start=1):
            self.assertEqual(post.put("no such kind", -number, SIXTY, about), number)
        for number, about in enumerate(abouts, start=1):
            self.assertEqual(post.taken(number), (number, "no such kind", -number, SIXTY, about))

    def test_two_posts_do_not_touch_one_another(self):
        one, other = Post(), Post()
        one.put("hold", 0, 1, ())
        one.put("hold", 0, 1, ())
        self.assertEqual(other.letters(), [])
        self.assertEqual(other.put("back", 1, 0, ()), 1)
        one.taken(1)
        self.assertEqual(other.letters(), [(1, "back", 1, 0, ())])
        self.assertEqual(one.letters(), [(2, "hold", 0, 1, ())])

    def test_a_list_that_was_told_stays(self):
        post = filled(2)
        told = post.letters()
        kept = list(told)
        post.taken(1)
        post.put("hold", 9, 9, ())
        self.assertEqual(told, kept)

    def test_what_the_asker_does_with_a_list_changes_nothing(self):
        post = filled(3)
        kept = post.letters()
        told = post.letters()
        told.reverse()
        told.pop()
        self.assertEqual(post.letters(), kept)
        post.letters().clear()
        self.assertEqual(post.letters(), kept)
        self.assertEqual(post.taken(3), kept[2])


if __name__ == "__main__":
    unittest.main()
