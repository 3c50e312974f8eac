"""Priority by parts: the day of each box that a paper discloses, and the paper that it comes from."""
