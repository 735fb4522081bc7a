"""The desk, which is told rows and answers each with a text: points 32 to 36 of the document."""

from fewbends.asked import answer_of, is_asked
from fewbends.errors import NoRow
from fewbends.handed import is_keeping, is_looking, kept_by, look_by
from fewbends.kept import newly_kept
from fewbends.texts import read_map


class Desk:
    def __init__(self):
        self.kept = None

    def say(self, row):
        word = row.partition("\n")[0].partition(" ")[0]
        if word == "map":
            self.kept = newly_kept(read_map(row))
            return "ok"
        if is_asked(row):
            return answer_of(row, self.kept)
        if not row.startswith(word + " ") or row == word + " ":
            raise NoRow("it is no word with a rest")
        rest = row[len(word) + 1:]
        if is_keeping(word):
            self.kept = kept_by(word, self.kept, rest)
            return "ok"
        if is_looking(word):
            return look_by(word, self.kept, rest)
        raise NoRow("there is no such row")
